package disk_test

import (
	"math"
	"slices"
	"strings"
	"testing"

	"reveille/api"
	"reveille/disk"
)

// All tests of this package hold promise P4.1: all are what the chapter says; what was synced is changed by calls alone.

const greatest = 1 << 24

// ok fails, if a call wasn't told OK.
func ok(t *testing.T, l ...api.Errno) {
	t.Helper()
	for i, e := range l {
		if e != api.OK {
			t.Fatalf("call %d: %d, not OK", i, e)
		}
	}
}

// has fails, if a file hasn't these bytes.
func has(t *testing.T, d *disk.Disk, name, want string) {
	t.Helper()
	if s, e := d.All(name); s != want || e != api.OK {
		t.Fatalf("%q has %q, %d, not %q", name, s, e, want)
	}
	if n := d.Len(name); n != len(want) {
		t.Fatalf("%q is told to have %d bytes, not %d", name, n, len(want))
	}
}

// with is a disk with files of a byte string each, synced: of name, bytes, name, bytes ..
func with(t *testing.T, l ...string) *disk.Disk {
	t.Helper()
	d := disk.New(1000)
	for i := 0; i < len(l); i += 2 {
		ok(t, d.Create(l[i]), d.Write(l[i], 0, l[i+1]), d.Sync(l[i]))
	}
	return d
}

// all is a plan that keeps n writes, whole.
func all(n int) disk.Plan {
	return disk.Plan{Keep: slices.Repeat([]bool{true}, n)}
}

func TestTheChaptersExample(t *testing.T) {
	d := disk.New(100)
	ok(t, d.Create("f"), d.Write("f", 0, "ab"), d.Sync("f"), d.Write("f", 2, "cd"))
	has(t, d, "f", "abcd")
	d.Crash(disk.Plan{})
	has(t, d, "f", "ab")
}

func TestANewDisk(t *testing.T) {
	for _, c := range []struct{ capacity, want int }{
		{math.MinInt, 0}, {-1, 0}, {0, 0}, {1, 1}, {1000, 1000}, {greatest - 1, greatest - 1}, {greatest, greatest}, {greatest + 1, greatest}, {math.MaxInt, greatest},
	} {
		d := disk.New(c.capacity)
		if d.Room() != c.want || d.Size() != 0 || d.Waits() != 0 || d.Down() || len(d.List("")) != 0 || d.Len("") != 0 {
			t.Errorf("of %d: room %d, size %d, waits %d, down %t, files %q", c.capacity, d.Room(), d.Size(), d.Waits(), d.Down(), d.List(""))
		}
	}
}

func TestADiskOfNoBytes(t *testing.T) {
	d := disk.New(0)
	ok(t, d.Create("f"), d.Write("f", 0, ""), d.Sync("f"), d.Cut("f", 0), d.Rename("f", "g"))
	if e := d.Write("g", 0, "a"); e != api.ErrFull {
		t.Errorf("a byte: %d", e)
	}
	has(t, d, "g", "")
	ok(t, d.Delete("g"))
}

func TestTheGreatestDisk(t *testing.T) {
	d, half := disk.New(greatest+1), strings.Repeat("x", greatest/2)
	ok(t, d.Create("a"), d.Create("b"), d.Write("a", 0, half), d.Write("b", 0, half))
	if d.Room() != 0 || d.Size() != greatest {
		t.Errorf("room %d, size %d", d.Room(), d.Size())
	}
	if e := d.Write("a", greatest/2, "x"); e != api.ErrFull {
		t.Errorf("a byte more: %d", e)
	}
}

func TestADiskThatNewDidNotMake(t *testing.T) {
	d := &disk.Disk{}
	if d.Down() || !d.Same(disk.New(9)) || !disk.New(9).Same(d) || d.Delete("f") != api.ErrNone {
		t.Error("it isn't one without files")
	}
	d.Crash(all(3))
	ok(t, d.Create("f"), d.Sync("f"))
	if e := d.Write("f", 0, "a"); e != api.ErrFull {
		t.Errorf("a byte: %d", e)
	}
}

func TestFilesBesideEachOther(t *testing.T) {
	d := disk.New(100)
	ok(t, d.Create("a"), d.Create("b"), d.Create(""))
	ok(t, d.Write("a", 0, "one"), d.Write("b", 0, "three"), d.Write("a", 3, "two"), d.Write("", 0, "\x00\xff"), d.Write("b", 1, "HR"))
	has(t, d, "a", "onetwo")
	has(t, d, "b", "tHRee")
	has(t, d, "", "\x00\xff")
	if d.Size() != 13 || d.Room() != 87 || d.Waits() != 5 {
		t.Errorf("size %d, room %d, waits %d", d.Size(), d.Room(), d.Waits())
	}
	ok(t, d.Sync("a", ""), d.Cut("b", 3))
	if d.Size() != 11 || d.Room() != 89 || d.Waits() != 0 {
		t.Errorf("size %d, room %d, waits %d", d.Size(), d.Room(), d.Waits())
	}
	ok(t, d.Rename("a", "c"), d.Delete("b"))
	if l := d.List(""); !slices.Equal(l, []string{"", "c"}) || d.Size() != 8 {
		t.Errorf("%q, size %d", l, d.Size())
	}
	has(t, d, "c", "onetwo")
	if d.Len("a") != 0 || d.Len("b") != 0 {
		t.Error("bytes of files that are gone")
	}
}

func TestNamesByHowTheyBegin(t *testing.T) {
	d := disk.New(0)
	names := []string{"b", "a", "", "ab", "a-2", "a-10", "A", "z", "a-1", "é", "\xff", "\x00", "aé", "a~", "-a"}
	for _, n := range names {
		ok(t, d.Create(n))
	}
	for _, c := range []struct {
		head string
		want []string
	}{
		{"", []string{"", "\x00", "-a", "A", "a", "a-1", "a-10", "a-2", "ab", "a~", "aé", "b", "z", "é", "\xff"}},
		{"a", []string{"a", "a-1", "a-10", "a-2", "ab", "a~", "aé"}},
		{"a-", []string{"a-1", "a-10", "a-2"}},
		{"a-1", []string{"a-1", "a-10"}},
		{"a-10", []string{"a-10"}},
		{"a-100", nil},
		{"\xc3", []string{"é"}},
		{"-", []string{"-a"}},
		{"x", nil},
	} {
		if l := d.List(c.head); !slices.Equal(l, c.want) {
			t.Errorf("%q: %q, not %q", c.head, l, c.want)
		}
	}
}

// TestAnswersAreNewMemory: who changes what was told, or handed in, changes no disk.
func TestAnswersAreNewMemory(t *testing.T) {
	d := with(t, "a", "x", "b", "y")
	l := d.List("")
	l[0], l[1] = "q", "q"
	if l = d.List(""); !slices.Equal(l, []string{"a", "b"}) {
		t.Errorf("%q", l)
	}
	names := []string{"b", "a", "b"}
	ok(t, d.Sync(names...), d.Write("a", 0, "z"))
	p := all(1)
	d.Crash(p)
	if !slices.Equal(names, []string{"b", "a", "b"}) || !slices.Equal(p.Keep, []bool{true}) {
		t.Errorf("%q, %v", names, p)
	}
	s, _ := d.All("a")
	part, _ := d.Read("a", 0, 1)
	ok(t, d.Write("a", 0, "?"))
	if s != "z" || part != "z" {
		t.Errorf("what was told became %q and %q", s, part)
	}
}

func TestCreateOfWhatIsThere(t *testing.T) {
	d := with(t, "f", "abc")
	if e := d.Create("f"); e != api.ErrThere {
		t.Errorf("%d", e)
	}
	has(t, d, "f", "abc")
	ok(t, d.Delete("f"), d.Create("f"))
	has(t, d, "f", "")
}

func TestWhereAWriteMayBegin(t *testing.T) {
	for _, c := range []struct {
		at   int
		s    string
		e    api.Errno
		want string
	}{
		{0, "XY", api.OK, "XYcd"}, {1, "XY", api.OK, "aXYd"}, {2, "XY", api.OK, "abXY"}, {3, "XY", api.OK, "abcXY"}, {4, "XY", api.OK, "abcdXY"},
		{0, "VWXYZ", api.OK, "VWXYZ"}, {0, "", api.OK, "abcd"}, {4, "", api.OK, "abcd"},
		{5, "XY", api.ErrRange, "abcd"}, {5, "", api.ErrRange, "abcd"}, {-1, "XY", api.ErrRange, "abcd"}, {-1, "", api.ErrRange, "abcd"},
		{math.MaxInt, "XY", api.ErrRange, "abcd"}, {math.MaxInt, "", api.ErrRange, "abcd"}, {math.MinInt, "XY", api.ErrRange, "abcd"},
	} {
		d := with(t, "f", "abcd", "g", "other")
		waits := 0
		if c.e == api.OK && c.s != "" {
			waits = 1
		}
		if e := d.Write("f", c.at, c.s); e != c.e || d.Waits() != waits {
			t.Errorf("at %d %q: %d, %d wait", c.at, c.s, e, d.Waits())
		}
		has(t, d, "f", c.want)
		has(t, d, "g", "other")
		d.Crash(disk.Plan{})
		has(t, d, "f", "abcd")
	}
}

func TestADiskThatIsJustFull(t *testing.T) {
	d := disk.New(10)
	ok(t, d.Create("a"), d.Create("b"), d.Write("a", 0, "abcdef"), d.Write("b", 0, "123"))
	for _, c := range []struct {
		name string
		at   int
		s    string
	}{{"a", 6, "xy"}, {"a", 5, "xyz"}, {"a", 0, "12345678"}, {"b", 3, "xy"}, {"b", 0, "12345"}, {"b", 1, strings.Repeat("x", 1000)}} {
		if e := d.Write(c.name, c.at, c.s); e != api.ErrFull {
			t.Errorf("%q at %d %q: %d", c.name, c.at, c.s, e)
		}
	}
	has(t, d, "a", "abcdef")
	has(t, d, "b", "123")
	ok(t, d.Write("a", 5, "XY")) // over one byte, and the last one that goes in
	has(t, d, "a", "abcdeXY")
	if d.Room() != 0 || d.Size() != 10 || d.Waits() != 3 {
		t.Errorf("room %d, size %d, waits %d", d.Room(), d.Size(), d.Waits())
	}
	ok(t, d.Write("a", 0, "ABCDEFG"), d.Write("b", 0, "321"), d.Write("b", 3, ""), d.Create("c"), d.Write("c", 0, ""))
	if e := d.Write("c", 0, "x"); e != api.ErrFull {
		t.Errorf("a byte more: %d", e)
	}
	if e := d.Write("b", 4, "x"); e != api.ErrRange {
		t.Errorf("beyond the end of a file of a full disk: %d", e)
	}
}

// TestRoomComesBack: by a cut, a file that goes, one that is renamed onto, and a crash.
func TestRoomComesBack(t *testing.T) {
	d := disk.New(9)
	ok(t, d.Create("a"), d.Create("b"), d.Create("c"), d.Write("a", 0, "123"), d.Sync("a"), d.Write("b", 0, "456"), d.Write("c", 0, "789"))
	rooms := []int{d.Room()}
	ok(t, d.Cut("c", 1))
	rooms = append(rooms, d.Room())
	ok(t, d.Rename("a", "c"))
	rooms = append(rooms, d.Room())
	d.Crash(disk.Plan{})
	rooms = append(rooms, d.Room())
	ok(t, d.Delete("c"))
	rooms = append(rooms, d.Room())
	if !slices.Equal(rooms, []int{0, 2, 3, 6, 9}) {
		t.Errorf("%v", rooms)
	}
	ok(t, d.Write("b", 0, "123456789"))
}

func TestRead(t *testing.T) {
	d := with(t, "f", "abcd", "empty", "")
	ok(t, d.Write("f", 4, "ef"))
	for _, c := range []struct {
		at, n int
		want  string
		e     api.Errno
	}{
		{0, 0, "", api.OK}, {0, 1, "a", api.OK}, {0, 6, "abcdef", api.OK}, {3, 2, "de", api.OK}, {5, 1, "f", api.OK}, {6, 0, "", api.OK}, {3, 0, "", api.OK},
		{0, 7, "", api.ErrRange}, {5, 2, "", api.ErrRange}, {6, 1, "", api.ErrRange}, {7, 0, "", api.ErrRange}, {7, -1, "", api.ErrRange},
		{-1, 1, "", api.ErrRange}, {-1, 0, "", api.ErrRange}, {1, -1, "", api.ErrRange}, {0, -1, "", api.ErrRange},
		{math.MaxInt, 1, "", api.ErrRange}, {1, math.MaxInt, "", api.ErrRange}, {math.MaxInt, math.MaxInt, "", api.ErrRange},
		{math.MinInt, 0, "", api.ErrRange}, {0, math.MinInt, "", api.ErrRange}, {6, math.MaxInt - 5, "", api.ErrRange},
	} {
		if s, e := d.Read("f", c.at, c.n); s != c.want || e != c.e {
			t.Errorf("%d from %d on: %q, %d", c.n, c.at, s, e)
		}
	}
	if s, e := d.Read("empty", 0, 0); s != "" || e != api.OK {
		t.Errorf("none of none: %q, %d", s, e)
	}
	if s, e := d.Read("empty", 0, 1); s != "" || e != api.ErrRange {
		t.Errorf("one of none: %q, %d", s, e)
	}
	if s, e := d.All("empty"); s != "" || e != api.OK {
		t.Errorf("all of none: %q, %d", s, e)
	}
}

func TestCut(t *testing.T) {
	for _, c := range []struct {
		n    int
		e    api.Errno
		want string
	}{
		{0, api.OK, ""}, {1, api.OK, "a"}, {3, api.OK, "abc"}, {5, api.OK, "abcde"}, {6, api.OK, "abcdef"},
		{7, api.ErrRange, "abcd"}, {-1, api.ErrRange, "abcd"}, {math.MaxInt, api.ErrRange, "abcd"}, {math.MinInt, api.ErrRange, "abcd"},
	} {
		d := with(t, "f", "abcd", "g", "")
		ok(t, d.Write("g", 0, "other"), d.Write("f", 4, "ef"))
		if e := d.Cut("f", c.n); e != c.e {
			t.Errorf("%d: %d", c.n, e)
		}
		waits := 1 // the other file's
		if c.e != api.OK {
			waits = 2
		}
		if d.Waits() != waits {
			t.Errorf("%d: %d wait", c.n, d.Waits())
		}
		d.Crash(disk.Plan{}) // what was cut lasts, with what was written ahead of it; what was refused let nothing last
		has(t, d, "f", c.want)
		has(t, d, "g", "")
		if d.Size() != len(c.want) {
			t.Errorf("%d: size %d", c.n, d.Size())
		}
	}
}

func TestWritesBehindACut(t *testing.T) {
	d := with(t, "f", "abcdef")
	ok(t, d.Cut("f", 2), d.Write("f", 2, "xy"), d.Write("f", 4, "z"))
	has(t, d, "f", "abxyz")
	d.Crash(disk.Plan{Keep: []bool{false, true}})
	has(t, d, "f", "ab\x00\x00z") // of what was cut off nothing comes back
	ok(t, d.Cut("f", 0), d.Write("f", 0, "1"))
	has(t, d, "f", "1")
}

func TestRename(t *testing.T) {
	d := with(t, "a", "one", "b", "two", "c", "three")
	ok(t, d.Rename("a", "x"), d.Rename("b", "c"))
	if l := d.List(""); !slices.Equal(l, []string{"c", "x"}) || d.Size() != 6 {
		t.Errorf("%q, size %d", l, d.Size())
	}
	has(t, d, "x", "one")
	has(t, d, "c", "two")
	if e := d.Rename("a", "c"); e != api.ErrNone {
		t.Errorf("one that was renamed: %d", e)
	}
	if e := d.Rename("a", "a"); e != api.ErrNone {
		t.Errorf("one that isn't there, to itself: %d", e)
	}
	d.Crash(disk.Plan{})
	has(t, d, "x", "one")
	has(t, d, "c", "two")
}

func TestRenameToItself(t *testing.T) {
	d := with(t, "a", "one")
	ok(t, d.Write("a", 3, "!"))
	d.Fuse(1)
	ok(t, d.Rename("a", "a"))
	has(t, d, "a", "one!")
	if d.Waits() != 1 || d.Size() != 4 {
		t.Errorf("waits %d, size %d", d.Waits(), d.Size())
	}
	if e := d.Rename("a", "a"); e != api.ErrDown {
		t.Errorf("behind the fuse: %d", e)
	}
	d.Crash(all(1))
	has(t, d, "a", "one!")
}

// TestWritesOfARenamedFile: they are kept, at their places in the order; those of the file that it takes the place of are gone.
func TestWritesOfARenamedFile(t *testing.T) {
	d := with(t, "a", "aaaa", "b", "bbbb", "c", "cccc")
	ok(t, d.Write("a", 0, "1"), d.Write("b", 0, "2"), d.Write("c", 0, "3"), d.Write("a", 1, "4"), d.Write("b", 1, "5"))
	ok(t, d.Rename("a", "b"), d.Write("b", 2, "6"), d.Create("a"), d.Write("a", 0, "7"))
	if d.Waits() != 5 {
		t.Errorf("%d wait", d.Waits())
	}
	has(t, d, "b", "146a")
	d.Crash(disk.Plan{Keep: []bool{true, false, false, true, true}}) // of 1, 3, 4, 6 and 7
	has(t, d, "a", "7")
	has(t, d, "b", "1a6a")
	has(t, d, "c", "cccc")
}

func TestSync(t *testing.T) {
	d := with(t, "a", "a", "b", "b", "c", "c")
	ok(t, d.Write("a", 1, "1"), d.Write("b", 1, "2"), d.Write("c", 1, "3"), d.Write("a", 2, "4"), d.Write("c", 2, "5"))
	waits := []int{d.Waits()}
	ok(t, d.Sync())
	waits = append(waits, d.Waits())
	if e := d.Sync("a", "none", "b"); e != api.ErrNone {
		t.Errorf("one that isn't there: %d", e)
	}
	if e := d.Sync("none"); e != api.ErrNone {
		t.Errorf("one that isn't there: %d", e)
	}
	waits = append(waits, d.Waits())
	ok(t, d.Sync("c", "c"))
	waits = append(waits, d.Waits())
	ok(t, d.Sync("a", "c"))
	waits = append(waits, d.Waits())
	if !slices.Equal(waits, []int{5, 5, 5, 3, 1}) {
		t.Errorf("%v wait", waits)
	}
	d.Crash(disk.Plan{})
	has(t, d, "a", "a14")
	has(t, d, "b", "b")
	has(t, d, "c", "c35")
}

func TestDelete(t *testing.T) {
	d := with(t, "a", "1", "b", "22", "c", "333", "d", "4444")
	ok(t, d.Write("a", 0, "x"), d.Write("b", 0, "x"), d.Write("d", 0, "x"))
	ok(t, d.Delete())
	if e := d.Delete("a", "none", "b"); e != api.ErrNone {
		t.Errorf("one that isn't there: %d", e)
	}
	if e := d.Delete("a", "a", "A"); e != api.ErrNone {
		t.Errorf("one that isn't there: %d", e)
	}
	if l := d.List(""); len(l) != 4 || d.Size() != 10 || d.Waits() != 3 {
		t.Errorf("%q, size %d, waits %d", l, d.Size(), d.Waits())
	}
	ok(t, d.Delete("b", "b"))
	if l := d.List(""); !slices.Equal(l, []string{"a", "c", "d"}) || d.Size() != 8 || d.Waits() != 2 {
		t.Errorf("%q, size %d, waits %d", l, d.Size(), d.Waits())
	}
	ok(t, d.Delete("d", "a", "d"))
	if l := d.List(""); !slices.Equal(l, []string{"c"}) || d.Size() != 3 || d.Waits() != 0 {
		t.Errorf("%q, size %d, waits %d", l, d.Size(), d.Waits())
	}
	if e := d.Delete("b"); e != api.ErrNone {
		t.Errorf("one that is gone: %d", e)
	}
	d.Crash(disk.Plan{})
	if l := d.List(""); !slices.Equal(l, []string{"c"}) {
		t.Errorf("a crash brought back: %q", l)
	}
}

// TestOneThatComesAgain: what a file of that name had, or waited for, isn't the new one's.
func TestOneThatComesAgain(t *testing.T) {
	d := with(t, "f", "old")
	ok(t, d.Write("f", 3, "er"), d.Delete("f"), d.Create("f"), d.Write("f", 0, "n"), d.Write("f", 1, "ew"))
	has(t, d, "f", "new")
	d.Crash(disk.Plan{Keep: []bool{true}})
	has(t, d, "f", "n")
}

func TestWhatIsNotThere(t *testing.T) {
	d := with(t, "there", "bytes")
	d.Fuse(0)
	for i, e := range []api.Errno{
		d.Write("f", 0, "a"), d.Write("f", -1, ""), d.Write("f", 0, strings.Repeat("a", 2000)), d.Sync("f"), d.Cut("f", 0), d.Cut("f", -1),
		d.Rename("f", "there"), d.Rename("f", "f"), d.Rename("", ""), d.Delete("f"), d.Sync("there", "f"), d.Delete("f", "there"),
	} {
		if e != api.ErrNone {
			t.Errorf("call %d: %d", i, e)
		}
	}
	if s, e := d.Read("f", 0, 0); s != "" || e != api.ErrNone {
		t.Errorf("%q, %d", s, e)
	}
	if s, e := d.Read("f", -1, 7); s != "" || e != api.ErrNone {
		t.Errorf("%q, %d", s, e)
	}
	if s, e := d.All("f"); s != "" || e != api.ErrNone {
		t.Errorf("%q, %d", s, e)
	}
	if d.Len("f") != 0 || d.Down() || !d.Same(with(t, "there", "bytes")) {
		t.Error("something changed")
	}
}

func TestSame(t *testing.T) {
	d := with(t, "a", "one", "b", "")
	for i, c := range []struct {
		x    *disk.Disk
		want bool
	}{
		{d, true}, {with(t, "b", "", "a", "one"), true}, {with(t, "a", "one"), false}, {with(t, "a", "one", "b", "", "c", ""), false},
		{with(t, "a", "one", "c", ""), false}, {with(t, "a", "onE", "b", ""), false}, {with(t, "a", "on", "b", ""), false}, {with(t, "a", "one", "b", "x"), false},
		{with(t, "a", "", "b", "one"), false}, {disk.New(9), false}, {nil, false},
	} {
		if d.Same(c.x) != c.want || c.x.Same(d) != c.want {
			t.Errorf("row %d: %t and %t", i, d.Same(c.x), c.x.Same(d))
		}
	}
	x := disk.New(greatest) // what is synced, how much goes in, and a fuse don't count; a write that waits does
	ok(t, x.Create("b"), x.Create("a"), x.Write("a", 0, "on"), x.Write("a", 2, "e"))
	x.Fuse(0)
	if !d.Same(x) || !x.Same(d) {
		t.Error("they aren't the same")
	}
	if x.Create("c") != api.ErrDown || !d.Same(x) || !x.Same(d) {
		t.Error("while it is down they aren't the same")
	}
	x.Crash(all(1))
	if d.Same(x) || x.Same(d) {
		t.Error("they are the same")
	}
}

func TestANilDisk(t *testing.T) {
	var d *disk.Disk
	d.Fuse(-1)
	d.Fuse(3)
	d.Crash(disk.Plan{})
	d.Crash(all(2))
	for i, e := range []api.Errno{
		d.Create("f"), d.Create(""), d.Write("f", 0, "a"), d.Write("f", -1, ""), d.Sync(), d.Sync("f"), d.Cut("f", 0), d.Cut("f", -1), d.Rename("f", "g"), d.Rename("f", "f"), d.Delete(), d.Delete("f"),
	} {
		if e != api.ErrArg {
			t.Errorf("call %d: %d", i, e)
		}
	}
	if s, e := d.Read("f", 0, 0); s != "" || e != api.ErrArg {
		t.Errorf("%q, %d", s, e)
	}
	if s, e := d.All("f"); s != "" || e != api.ErrArg {
		t.Errorf("%q, %d", s, e)
	}
	if d.Len("f") != 0 || d.Size() != 0 || d.Room() != 0 || d.Waits() != 0 || len(d.List("")) != 0 || !d.Down() {
		t.Error("it has something, or isn't down")
	}
	if !d.Same(nil) || d.Same(disk.New(0)) || disk.New(0).Same(d) || d.Same(&disk.Disk{}) {
		t.Error("it is the same as nil alone")
	}
}
