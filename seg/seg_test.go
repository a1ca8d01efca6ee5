package seg_test

import (
	"math"
	"strings"
	"testing"

	"reveille/api"
	"reveille/disk"
	"reveille/seg"
)

// All tests of this package hold promise P5.1: all are what the chapter says.

// ok fails, if a call wasn't told OK.
func ok(t *testing.T, l ...api.Errno) {
	t.Helper()
	for i, e := range l {
		if e != api.OK {
			t.Fatalf("call %d: %d, not OK", i, e)
		}
	}
}

// with is a disk with files, synced: of name, bytes, name, bytes ..
func with(t *testing.T, l ...string) *disk.Disk {
	t.Helper()
	d := disk.New(100000)
	for i := 0; i < len(l); i += 2 {
		ok(t, d.Create(l[i]), d.Write(l[i], 0, l[i+1]), d.Sync(l[i]))
	}
	return d
}

// holds fails, if a disk has other files than these, or other bytes in them.
func holds(t *testing.T, d *disk.Disk, l ...string) {
	t.Helper()
	if d.Same(with(t, l...)) {
		return
	}
	for _, name := range d.List("") {
		s, e := d.All(name)
		t.Logf("%q has %q, %d", name, s, e)
	}
	t.Fatalf("it doesn't hold %q", l)
}

func open(t *testing.T, d *disk.Disk, head string, size int) *seg.Row {
	t.Helper()
	r, e := seg.Open(d, head, size)
	if e != api.OK || r == nil {
		t.Fatalf("Open of %q, %d: %v, %d", head, size, r, e)
	}
	return r
}

// add appends texts, and fails, if one doesn't stand behind the end.
func add(t *testing.T, r *seg.Row, l ...string) {
	t.Helper()
	for _, s := range l {
		end := r.End()
		if at, e := r.Append(s); at != end || e != api.OK || r.End() != end+len(s) {
			t.Fatalf("Append of %q at %d: %d, %d; the end is %d", s, end, at, e, r.End())
		}
	}
}

// tells fails, if a row begins or ends elsewhere, or is synced up to elsewhere.
func tells(t *testing.T, r *seg.Row, begin, end, synced int) {
	t.Helper()
	if r.Begin() != begin || r.End() != end || r.Synced() != synced {
		t.Fatalf("from %d to %d, synced up to %d, not from %d to %d, up to %d", r.Begin(), r.End(), r.Synced(), begin, end, synced)
	}
}

// gives fails, if a Read gives something else.
func gives(t *testing.T, r *seg.Row, at, n int, want string, wrong api.Errno) {
	t.Helper()
	if s, e := r.Read(at, n); s != want || e != wrong {
		t.Fatalf("Read of %d from %d: %q, %d, not %q, %d", n, at, s, e, want, wrong)
	}
}

func letters(n int) string { return strings.Repeat("abcdefghijklmnop", n/16+1)[:n] }

// three is a row of the segments abcdefghijklmnop, ABCDEFGHIJKLMNOP and 01234, synced.
func three(t *testing.T) (*disk.Disk, *seg.Row) {
	t.Helper()
	d := with(t)
	r := open(t, d, "r", 16)
	add(t, r, letters(16), strings.ToUpper(letters(16)), "01234")
	ok(t, r.Sync())
	return d, r
}

func TestTheChaptersExample(t *testing.T) {
	d := disk.New(100)
	r := open(t, d, "f", 16)
	add(t, r, "ten bytes.")
	if r.Room() != 6 {
		t.Errorf("the room is %d", r.Room())
	}
}

func TestARowsLife(t *testing.T) {
	d := with(t)
	r := open(t, d, "r-", 16)
	holds(t, d)
	tells(t, r, 0, 0, 0)
	add(t, r, "0123456789")
	holds(t, d, "r-00000000", "0123456789")
	tells(t, r, 0, 10, 0)
	add(t, r, "abc", "\x00\xff\n")
	holds(t, d, "r-00000000", "0123456789abc\x00\xff\n")
	add(t, r, "second")
	holds(t, d, "r-00000000", "0123456789abc\x00\xff\n", "r-00000016", "second")
	tells(t, r, 0, 22, 0)
	gives(t, r, 10, 4, "abc\x00", api.OK)
	gives(t, r, 16, 6, "second", api.OK)
	ok(t, r.Sync())
	tells(t, r, 0, 22, 22)
	add(t, r, " and all", "s.", "third")
	holds(t, d, "r-00000000", "0123456789abc\x00\xff\n", "r-00000016", "second and alls.", "r-00000032", "third")
	tells(t, r, 0, 37, 22)
}

func TestARowsLaterLife(t *testing.T) {
	d := with(t, "r-00000000", letters(16), "r-00000016", letters(16), "r-00000032", "third")
	r := open(t, d, "r-", 16)
	tells(t, r, 0, 37, 0)
	ok(t, r.Cut(34))
	holds(t, d, "r-00000000", letters(16), "r-00000016", letters(16), "r-00000032", "th")
	if at, e := r.Drop(); at != 16 || e != api.OK {
		t.Fatalf("Drop: %d, %d", at, e)
	}
	holds(t, d, "r-00000016", letters(16), "r-00000032", "th")
	tells(t, r, 16, 34, 16)
	add(t, r, "is")
	ok(t, r.Sync())
	tells(t, r, 16, 36, 36)
	again := open(t, d, "r-", 16)
	tells(t, again, 16, 36, 16)
	gives(t, again, 32, 4, "this", api.OK)
	add(t, again, "!")
	holds(t, d, "r-00000016", letters(16), "r-00000032", "this!")
}

func TestTwoRowsOnOneDisk(t *testing.T) {
	for _, heads := range [][2]string{{"a", "b"}, {"a", "ab"}, {"a", "a0"}, {"a", "a00000000"}, {"", "a"}, {"", "0"}, {"", "00000000"}, {"a\x00", "a\xff"}} {
		d := with(t)
		x, y := open(t, d, heads[0], 16), open(t, d, heads[1], 17)
		add(t, x, "of x")
		add(t, y, letters(17), "y's")
		add(t, x, letters(12), "more")
		want := []string{heads[0] + "00000000", "of x" + letters(12), heads[0] + "00000016", "more", heads[1] + "00000000", letters(17), heads[1] + "00000017", "y's"}
		holds(t, d, want...)
		tells(t, x, 0, 20, 0)
		tells(t, y, 0, 20, 0)
		ok(t, x.Sync())
		if d.Waits() != 2 {
			t.Errorf("%q: %d writes wait", heads, d.Waits())
		}
		tells(t, y, 0, 20, 0)
		open(t, d, heads[0], 16)
		open(t, d, heads[1], 17)
		holds(t, d, want...)
		ok(t, y.Cut(0))
		if _, e := x.Drop(); e != api.OK {
			t.Errorf("%q: %d", heads, e)
		}
		holds(t, d, heads[0]+"00000016", "more", heads[1]+"00000000", "")
	}
}

func TestSizes(t *testing.T) {
	for _, c := range []struct {
		size int
		want api.Errno
	}{
		{math.MinInt, api.ErrArg}, {-16, api.ErrArg}, {0, api.ErrArg}, {1, api.ErrArg}, {15, api.ErrArg}, {16, api.OK}, {17, api.OK}, {200, api.OK}, {1024, api.OK}, {4095, api.OK}, {4096, api.OK}, {4097, api.ErrArg}, {math.MaxInt, api.ErrArg},
	} {
		d := with(t, "f00000001", "x")
		r, e := seg.Open(d, "f", c.size)
		if e != c.want || (r != nil) != (e == api.OK) {
			t.Errorf("of %d: %v, %d", c.size, r, e)
			continue
		}
		if e != api.OK {
			holds(t, d, "f00000001", "x")
			continue
		}
		holds(t, d)
		if r.Room() != c.size {
			t.Errorf("of %d: room %d", c.size, r.Room())
		}
		add(t, r, letters(c.size), "next")
		name, _ := seg.Name("f", c.size)
		holds(t, d, "f00000000", letters(c.size), name, "next")
	}
}

func TestAppendAndRoom(t *testing.T) {
	d := with(t)
	r := open(t, d, "r", 16)
	refused := func(s string) {
		t.Helper()
		end := r.End()
		if at, e := r.Append(s); at != 0 || e != api.ErrArg || r.End() != end {
			t.Fatalf("Append of %d bytes, of room %d: %d, %d", len(s), r.Room(), at, e)
		}
	}
	refused("")
	refused(letters(17)) // there is none: the size is room
	holds(t, d)
	add(t, r, letters(3))
	if r.Room() != 13 {
		t.Errorf("the room is %d", r.Room())
	}
	refused(letters(14))
	refused("")
	add(t, r, letters(13))
	if r.Room() != 16 || r.End() != 16 {
		t.Errorf("it is full: the room is %d, the end %d", r.Room(), r.End())
	}
	holds(t, d, "r00000000", "abc"+letters(13)) // the next one isn't there, as long as it isn't needed
	refused(letters(17))
	add(t, r, letters(16))
	if r.Room() != 16 {
		t.Errorf("the second is full: the room is %d", r.Room())
	}
	add(t, r, "x")
	if r.Room() != 15 {
		t.Errorf("the third has a byte: the room is %d", r.Room())
	}
	holds(t, d, "r00000000", "abc"+letters(13), "r00000016", letters(16), "r00000032", "x")
}

func TestAPlaceThatHasNoName(t *testing.T) {
	for _, c := range []struct {
		name string
		size int
	}{{"r99999984", 16}, {"r99999999", 11 * 73}, {"r99999744", 4096}} {
		d := with(t, c.name, letters(c.size-1))
		r := open(t, d, "r", c.size)
		begin, _ := seg.Place("r", c.name)
		add(t, r, "x")
		tells(t, r, begin, begin+c.size, begin)
		gives(t, r, begin+c.size-1, 1, "x", api.OK)
		if r.Room() != c.size || r.Left(begin) != c.size {
			t.Errorf("%s: room %d, left %d", c.name, r.Room(), r.Left(begin))
		}
		d.Fuse(0)
		if at, e := r.Append("y"); at != 0 || e != api.ErrRange || d.Down() {
			t.Errorf("%s: %d, %d, down %t", c.name, at, e, d.Down())
		}
		d.Fuse(-1)
		tells(t, r, begin, begin+c.size, begin)
		holds(t, d, c.name, letters(c.size-1)+"x")
		ok(t, r.Cut(begin+1))
		add(t, r, "y")
		holds(t, d, c.name, "ay")
	}
}

func TestTheLastPlaceButOne(t *testing.T) {
	d := with(t, "r99999968", letters(16))
	r := open(t, d, "r", 16)
	add(t, r, letters(16))
	holds(t, d, "r99999968", letters(16), "r99999984", letters(16))
	if _, e := r.Append("y"); e != api.ErrRange {
		t.Errorf("%d", e)
	}
	if at, e := r.Drop(); at != 99999984 || e != api.OK {
		t.Errorf("%d, %d", at, e)
	}
}

func TestReadAndLeft(t *testing.T) {
	d, r := three(t)
	if at, e := r.Drop(); at != 16 || e != api.OK {
		t.Fatalf("%d, %d", at, e)
	}
	for i, c := range []struct {
		at, n int
		want  string
		wrong api.Errno
	}{
		{16, 0, "", api.OK}, {37, 0, "", api.OK}, {20, 0, "", api.OK}, {32, 0, "", api.OK}, {15, 0, "", api.ErrRange}, {38, 0, "", api.ErrRange}, {0, 0, "", api.ErrRange}, {-1, 0, "", api.ErrRange},
		{16, 1, "A", api.OK}, {16, 16, "ABCDEFGHIJKLMNOP", api.OK}, {16, 17, "", api.ErrRange}, {20, 3, "EFG", api.OK}, {20, 12, "EFGHIJKLMNOP", api.OK}, {20, 13, "", api.ErrRange},
		{31, 1, "P", api.OK}, {31, 2, "", api.ErrRange}, {32, 1, "0", api.OK}, {32, 5, "01234", api.OK}, {32, 6, "", api.ErrRange}, {36, 1, "4", api.OK}, {36, 2, "", api.ErrRange}, {37, 1, "", api.ErrRange},
		{15, 1, "", api.ErrRange}, {15, 2, "", api.ErrRange}, {0, 1, "", api.ErrRange}, {-1, 1, "", api.ErrRange}, {-1, 20, "", api.ErrRange}, {20, -1, "", api.ErrRange}, {37, -1, "", api.ErrRange},
		{math.MinInt, 1, "", api.ErrRange}, {math.MaxInt, 1, "", api.ErrRange}, {20, math.MaxInt, "", api.ErrRange}, {20, math.MinInt, "", api.ErrRange}, {math.MaxInt, math.MaxInt, "", api.ErrRange}, {math.MinInt, math.MinInt, "", api.ErrRange},
	} {
		if s, e := r.Read(c.at, c.n); s != c.want || e != c.wrong {
			t.Errorf("row %d: Read of %d from %d: %q, %d", i, c.n, c.at, s, e)
		}
	}
	for at, want := range map[int]int{
		math.MinInt: 0, -1: 0, 0: 0, 15: 0, 16: 16, 17: 15, 24: 8, 31: 1, 32: 5, 33: 4, 36: 1, 37: 0, 38: 0, 47: 0, 48: 0, math.MaxInt: 0,
	} {
		if n := r.Left(at); n != want {
			t.Errorf("left from %d: %d, not %d", at, n, want)
		}
	}
	holds(t, d, "r00000016", strings.ToUpper(letters(16)), "r00000032", "01234")
}

func TestARowWithoutSegments(t *testing.T) {
	d := with(t, "other", "x")
	r := open(t, d, "r", 20)
	tells(t, r, 0, 0, 0)
	gives(t, r, 0, 0, "", api.OK)
	gives(t, r, 0, 1, "", api.ErrRange)
	gives(t, r, 1, 0, "", api.ErrRange)
	d.Fuse(0)
	ok(t, r.Sync(), r.Cut(0))
	if at, e := r.Drop(); at != 0 || e != api.ErrNone {
		t.Errorf("Drop: %d, %d", at, e)
	}
	if r.Cut(1) != api.ErrRange || r.Cut(-1) != api.ErrRange || r.Room() != 20 || r.Left(0) != 0 || d.Down() {
		t.Error("it has something, or a call was made")
	}
	holds(t, d, "other", "x")
}

func TestCut(t *testing.T) {
	low, high := letters(16), strings.ToUpper(letters(16))
	for _, c := range []struct {
		at    int
		want  []string
		calls int
	}{
		{37, []string{"r00000000", low, "r00000016", high, "r00000032", "01234"}, 0},
		{36, []string{"r00000000", low, "r00000016", high, "r00000032", "0123"}, 1},
		{33, []string{"r00000000", low, "r00000016", high, "r00000032", "0"}, 1},
		{32, []string{"r00000000", low, "r00000016", high}, 1}, // the third would be empty
		{31, []string{"r00000000", low, "r00000016", high[:15]}, 2},
		{17, []string{"r00000000", low, "r00000016", "A"}, 2},
		{16, []string{"r00000000", low}, 1}, // two are deleted, by one call
		{15, []string{"r00000000", low[:15]}, 2},
		{1, []string{"r00000000", "a"}, 2},
		{0, []string{"r00000000", ""}, 2}, // but not the first
	} {
		for n := range c.calls {
			d, r := three(t)
			d.Fuse(n)
			if e := r.Cut(c.at); e != api.ErrDown || !d.Down() {
				t.Errorf("to %d, a fuse of %d: %d", c.at, n, e)
			}
		}
		d, r := three(t)
		d.Fuse(c.calls)
		ok(t, r.Cut(c.at))
		d.Fuse(-1)
		holds(t, d, c.want...)
		tells(t, r, 0, c.at, c.at)
		ok(t, r.Cut(c.at))
		holds(t, d, c.want...)
		add(t, r, "+")
		gives(t, r, c.at, 1, "+", api.OK)
		tells(t, open(t, d, "r", 16), 0, c.at+1, 0)
	}
}

func TestCutElsewhere(t *testing.T) {
	for _, at := range []int{math.MinInt, -1, 0, 15, 38, 48, math.MaxInt} {
		d, r := three(t)
		if _, e := r.Drop(); e != api.OK {
			t.Fatal(e)
		}
		if e := r.Cut(at); e != api.ErrRange {
			t.Errorf("to %d: %d", at, e)
		}
		tells(t, r, 16, 37, 37)
		holds(t, d, "r00000016", strings.ToUpper(letters(16)), "r00000032", "01234")
	}
}

func TestCutOfARowThatBeginsLater(t *testing.T) {
	d, r := three(t)
	if _, e := r.Drop(); e != api.OK {
		t.Fatal(e)
	}
	ok(t, r.Cut(16))
	holds(t, d, "r00000016", "")
	tells(t, r, 16, 16, 16)
	d.Fuse(0)
	ok(t, r.Cut(16)) // it isn't shorter then: no call
	d.Fuse(-1)
	if at, e := r.Drop(); at != 0 || e != api.ErrNone {
		t.Errorf("Drop: %d, %d", at, e)
	}
	gives(t, r, 16, 0, "", api.OK)
	add(t, r, "new")
	holds(t, d, "r00000016", "new")
}

// TestCutOfALastOneThatIsEmpty: such a one is left by a crash between two calls; nothing is from its place on.
func TestCutOfALastOneThatIsEmpty(t *testing.T) {
	d := with(t, "r00000000", letters(16), "r00000016", "")
	r := open(t, d, "r", 16)
	tells(t, r, 0, 16, 0)
	holds(t, d, "r00000000", letters(16), "r00000016", "")
	ok(t, r.Cut(16))
	holds(t, d, "r00000000", letters(16))
	tells(t, r, 0, 16, 0)
	add(t, r, "x")
	holds(t, d, "r00000000", letters(16), "r00000016", "x")
}

func TestDrop(t *testing.T) {
	d, r := three(t)
	for _, want := range []int{16, 32} {
		d.Fuse(1)
		if at, e := r.Drop(); at != want || e != api.OK {
			t.Fatalf("Drop: %d, %d, not %d", at, e, want)
		}
		tells(t, r, want, 37, 37)
	}
	holds(t, d, "r00000032", "01234")
	d.Fuse(0)
	for range 2 {
		if at, e := r.Drop(); at != 0 || e != api.ErrNone || d.Down() {
			t.Fatalf("Drop of the last: %d, %d", at, e)
		}
	}
	d.Fuse(-1)
	tells(t, r, 32, 37, 37)
	add(t, r, letters(11))
	if _, e := r.Drop(); e != api.ErrNone { // it is full, but there is one only
		t.Errorf("%d", e)
	}
	add(t, r, "x")
	if at, e := r.Drop(); at != 48 || e != api.OK {
		t.Errorf("%d, %d", at, e)
	}
	holds(t, d, "r00000048", "x")
	tells(t, r, 48, 49, 48) // from the begin on
}

func TestDropAheadOfAnEmptyOne(t *testing.T) {
	d := with(t, "r00000016", letters(16), "r00000032", "")
	r := open(t, d, "r", 16)
	if at, e := r.Drop(); at != 32 || e != api.OK {
		t.Fatalf("%d, %d", at, e)
	}
	holds(t, d, "r00000032", "")
	tells(t, r, 32, 32, 32)
	if r.Room() != 16 {
		t.Errorf("room %d", r.Room())
	}
}

func TestNames(t *testing.T) {
	for _, c := range []struct {
		head string
		at   int
		want string
		ok   bool
	}{
		{"tape-", 0, "tape-00000000", true}, {"tape-", 1024, "tape-00001024", true}, {"", 7, "00000007", true}, {"x", 12345678, "x12345678", true}, {"x", 99999999, "x99999999", true}, {"1", 10000000, "110000000", true},
		{"\xff\x00", 16, "\xff\x0000000016", true}, {"x", 9, "x00000009", true}, {"x", 10, "x00000010", true},
		{"x", 100000000, "", false}, {"x", -1, "", false}, {"x", math.MinInt, "", false}, {"x", math.MaxInt, "", false}, {"", -0x7fffffff, "", false}, {"", 1 << 32, "", false},
	} {
		name, ok := seg.Name(c.head, c.at)
		if name != c.want || ok != c.ok {
			t.Errorf("%q, %d: %q, %t", c.head, c.at, name, ok)
		}
		if at, is := seg.Place(c.head, name); ok && (at != c.at || !is) {
			t.Errorf("%q, %d: its place is %d, %t", c.head, c.at, at, is)
		}
	}
}

func TestPlaces(t *testing.T) {
	for _, c := range []struct {
		head, name string
		want       int
		ok         bool
	}{
		{"x", "x00000000", 0, true}, {"x", "x99999999", 99999999, true}, {"x", "x00000010", 10, true}, {"", "00000010", 10, true}, {"a0", "a000000001", 1, true}, {"a", "a000000001", 0, false}, {"00000000", "0000000012345678", 12345678, true},
		{"x", "x0000000", 0, false}, {"x", "x000000000", 0, false}, {"x", "x", 0, false}, {"x", "", 0, false}, {"", "", 0, false}, {"xyz", "xy", 0, false}, {"x", "y00000000", 0, false}, {"x", "00000000x", 0, false}, {"", "x00000000", 0, false}, {"", "x0000000", 0, false},
		{"x", "x+0000001", 0, false}, {"x", "x-0000001", 0, false}, {"x", "x0000 001", 0, false}, {"x", "x 0000001", 0, false}, {"x", "x0000001 ", 0, false}, {"x", "x0000000a", 0, false}, {"x", "x0x000001", 0, false}, {"x", "x1_000_00", 0, false}, {"x", "x0000000/", 0, false}, {"x", "x:0000000", 0, false}, {"x", "x0000.000", 0, false}, {"x", "x00001e02", 0, false}, {"x", "x0000000\x00", 0, false}, {"x", "x0000000\xff", 0, false},
		{"x", "x000000\u0661", 0, false}, {"x", "x\u0661\u0662\u0663\u0664", 0, false}, {"x", "x\uff11\uff1100", 0, false}, {"X", "x00000000", 0, false},
	} {
		if at, ok := seg.Place(c.head, c.name); at != c.want || ok != c.ok {
			t.Errorf("%q, %q: %d, %t", c.head, c.name, at, ok)
		}
	}
}

func TestANilRow(t *testing.T) {
	var r *seg.Row
	for _, s := range []string{"", "x", letters(5000)} {
		if at, e := r.Append(s); at != 0 || e != api.ErrArg {
			t.Errorf("Append: %d, %d", at, e)
		}
	}
	for _, n := range []int{-1, 0, 1} {
		if s, e := r.Read(0, n); s != "" || e != api.ErrArg {
			t.Errorf("Read: %q, %d", s, e)
		}
		if e := r.Cut(n); e != api.ErrArg {
			t.Errorf("Cut: %d", e)
		}
		if r.Left(n) != 0 {
			t.Error("Left")
		}
	}
	if at, e := r.Drop(); at != 0 || e != api.ErrArg {
		t.Errorf("Drop: %d, %d", at, e)
	}
	if e := r.Sync(); e != api.ErrArg {
		t.Errorf("Sync: %d", e)
	}
	if r.Begin() != 0 || r.End() != 0 || r.Synced() != 0 || r.Room() != 0 {
		t.Error("it has something")
	}
}

// TestARowThatOpenDidNotMake: it has no disk; no call panics.
func TestARowThatOpenDidNotMake(t *testing.T) {
	r := &seg.Row{}
	if at, e := r.Append("x"); at != 0 || e != api.ErrArg {
		t.Errorf("Append: %d, %d", at, e)
	}
	if s, e := r.Read(0, 1); s != "" || e != api.ErrRange {
		t.Errorf("Read: %q, %d", s, e)
	}
	if at, e := r.Drop(); at != 0 || e != api.ErrNone {
		t.Errorf("Drop: %d, %d", at, e)
	}
	gives(t, r, 0, 0, "", api.OK)
	ok(t, r.Sync(), r.Cut(0))
	if r.Cut(1) != api.ErrRange || r.Left(0) != 0 || r.Room() != 0 {
		t.Error("it has something")
	}
	tells(t, r, 0, 0, 0)
}

func TestADiskThatIsNone(t *testing.T) {
	for _, size := range []int{0, 16, 1024} {
		if r, e := seg.Open(nil, "r", size); r != nil || e != api.ErrArg {
			t.Errorf("%v, %d", r, e)
		}
	}
}

func TestADiskThatIsFull(t *testing.T) {
	d := disk.New(20)
	r := open(t, d, "r", 16)
	add(t, r, letters(12))
	ok(t, d.Create("other"), d.Write("other", 0, "12345"))
	full := func(s string, want api.Errno) {
		t.Helper()
		d.Fuse(0)
		end, synced, size := r.End(), r.Synced(), d.Size()
		if at, e := r.Append(s); at != 0 || e != want || d.Down() {
			t.Fatalf("Append of %q: %d, %d, down %t", s, at, e, d.Down())
		}
		d.Fuse(-1)
		tells(t, r, 0, end, synced)
		if d.Size() != size || len(d.List("r")) != 1 {
			t.Fatalf("size %d, files %q", d.Size(), d.List(""))
		}
	}
	full("1234", api.ErrFull)
	full("12345", api.ErrArg) // that is asked first
	full("", api.ErrArg)
	add(t, r, "123")
	full("1", api.ErrFull)
	ok(t, d.Cut("other", 4))
	add(t, r, "4")
	full("1", api.ErrFull) // no segment is created, which would be empty
	ok(t, d.Cut("other", 3))
	full("12", api.ErrFull)
	add(t, r, "1")
	if s, e := d.All("r00000016"); s != "1" || e != api.OK {
		t.Errorf("%q, %d", s, e)
	}
	ok(t, r.Sync())
	tells(t, r, 0, 17, 17)
}

func TestAnswersAreNewMemory(t *testing.T) {
	d := with(t)
	r := open(t, d, "r", 16)
	add(t, r, "abc")
	s, _ := r.Read(0, 3)
	ok(t, d.Write("r00000000", 0, "XYZ"))
	if s != "abc" {
		t.Errorf("it became %q", s)
	}
}
