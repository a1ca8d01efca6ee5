package seg_test

import (
	"math"
	"testing"

	"reveille/api"
	"reveille/disk"
	"reveille/seg"
)

var full = letters(16)

func TestOpenOverFiles(t *testing.T) {
	for i, c := range []struct {
		head       string
		there      []string
		begin, end int
		left       []string
	}{
		{"r", nil, 0, 0, nil},
		{"r", []string{"r00000000", full, "r00000016", full, "r00000032", "abc"}, 0, 35, []string{"r00000000", full, "r00000016", full, "r00000032", "abc"}},
		{"r", []string{"r00000000", full}, 0, 16, []string{"r00000000", full}},
		{"r", []string{"r00000000", ""}, 0, 0, []string{"r00000000", ""}},
		{"r", []string{"r00000032", "ab"}, 32, 34, []string{"r00000032", "ab"}}, // a first one at a place above 0
		{"r", []string{"r00000032", full, "r00000048", ""}, 32, 48, []string{"r00000032", full, "r00000048", ""}},
		{"r", []string{"r00000000", "ab", "r00000016", full}, 0, 2, []string{"r00000000", "ab"}}, // one that is shorter, in the midst
		{"r", []string{"r00000000", full, "r00000016", full[:15], "r00000032", full, "r00000048", "x"}, 0, 31, []string{"r00000000", full, "r00000016", full[:15]}},
		{"r", []string{"r00000000", full, "r00000016", "", "r00000032", full}, 0, 16, []string{"r00000000", full, "r00000016", ""}},
		{"r", []string{"r00000000", "", "r00000016", full}, 0, 0, []string{"r00000000", ""}},
		{"r", []string{"r00000000", full, "r00000032", full}, 0, 16, []string{"r00000000", full}}, // a gap
		{"r", []string{"r00000016", full, "r00000032", "x", "r00000064", full, "r00000080", full}, 16, 33, []string{"r00000016", full, "r00000032", "x"}},
		{"r", []string{"r00000008", full, "r00000016", full}, 16, 32, []string{"r00000016", full}}, // a place that is no multiple of the size
		{"r", []string{"r00000001", "", "r00000016", full, "r00000017", "x", "r00000031", full, "r00000032", "y", "r99999999", ""}, 16, 33, []string{"r00000016", full, "r00000032", "y"}},
		{"r", []string{"r00000008", "x"}, 0, 0, nil},
		{"r", []string{"r00000000", full + "x", "r00000016", full, "r00000032", "x"}, 16, 33, []string{"r00000016", full, "r00000032", "x"}}, // one with more bytes than the size
		{"r", []string{"r00000000", full, "r00000016", full + full, "r00000032", full}, 0, 16, []string{"r00000000", full}},
		{"r", []string{"r00000000", full + "x"}, 0, 0, nil},
		{"r", []string{"r99999984", full}, 99999984, 100000000, []string{"r99999984", full}},
		{"r", []string{"r0000016", full, "r000000016", full, "r+0000016", "", "r0000016x", "x", "r", "y", "rx00000016", full, "s00000016", full, "", "z"}, 0, 0,
			[]string{"r0000016", full, "r000000016", full, "r+0000016", "", "r0000016x", "x", "r", "y", "rx00000016", full, "s00000016", full, "", "z"}}, // names that tell no place
		{"r", []string{"r000000000", "x", "r0000000", "y", "r00000000", full, "r00000000x", "z", "r00000016", "abc", "r00000040", "gone"}, 0, 19,
			[]string{"r000000000", "x", "r0000000", "y", "r00000000", full, "r00000000x", "z", "r00000016", "abc"}},
		{"", []string{"00000016", full, "00000064", "gone", "r00000016", full, "7", "x"}, 16, 32, []string{"00000016", full, "r00000016", full, "7", "x"}}, // an empty head
		{"a", []string{"a00000016", full, "ab00000000", "x", "a000000000", "y", "a00000000", "", "b00000048", "z"}, 0, 0, []string{"a00000000", "", "ab00000000", "x", "a000000000", "y", "b00000048", "z"}},
		{"a0", []string{"a000000000", "y", "a00000000", "of a", "a00000048", "of a"}, 0, 1, []string{"a000000000", "y", "a00000000", "of a", "a00000048", "of a"}},
	} {
		d := with(t, c.there...)
		calls := 0
		if len(c.left) < len(c.there) {
			calls = 1
			d.Fuse(0)
			if r, e := seg.Open(d, c.head, 16); r != nil || e != api.ErrDown {
				t.Errorf("row %d: %v, %d", i, r, e)
			}
			d.Crash(disk.Plan{})
			holds(t, d, c.there...)
		}
		d.Fuse(calls)
		r := open(t, d, c.head, 16)
		d.Fuse(-1)
		holds(t, d, c.left...)
		if r.Begin() != c.begin || r.End() != c.end || r.Synced() != c.begin {
			t.Errorf("row %d: from %d to %d, synced up to %d", i, r.Begin(), r.End(), r.Synced())
		}
		d.Fuse(0)
		again := open(t, d, c.head, 16)
		tells(t, again, c.begin, c.end, c.begin)
	}
}

func TestOpenWithAnotherSize(t *testing.T) {
	long := letters(48)
	d := with(t, "r00000000", long, "r00000048", long, "r00000096", "abc")
	r := open(t, d, "r", 48)
	tells(t, r, 0, 99, 0)
	gives(t, r, 48, 48, long, api.OK)
	holds(t, d, "r00000000", long, "r00000048", long, "r00000096", "abc")
	r = open(t, d, "r", 96) // the second's place is no multiple; the first is shorter
	tells(t, r, 0, 48, 0)
	holds(t, d, "r00000000", long)
	r = open(t, d, "r", 47)
	tells(t, r, 0, 0, 0)
	holds(t, d)
}

func TestSynced(t *testing.T) {
	d := with(t, "r00000016", full, "r00000032", "abc")
	r := open(t, d, "r", 16)
	tells(t, r, 16, 35, 16) // of a row just opened
	add(t, r, "d")
	tells(t, r, 16, 36, 16)
	ok(t, r.Sync())
	tells(t, r, 16, 36, 36)
	add(t, r, letters(12), "e")
	tells(t, r, 16, 49, 36)
	ok(t, r.Cut(40))
	tells(t, r, 16, 40, 36) // what a cut synced doesn't count
	ok(t, r.Sync())
	tells(t, r, 16, 40, 40)
	ok(t, r.Cut(38))
	tells(t, r, 16, 38, 38)
	add(t, r, "fg")
	tells(t, r, 16, 40, 38)
	ok(t, r.Cut(34))
	add(t, r, letters(9))
	tells(t, r, 16, 43, 34)
	ok(t, r.Cut(16))
	tells(t, r, 16, 16, 16)
	add(t, r, full, full, "x")
	if at, e := r.Drop(); at != 32 || e != api.OK {
		t.Fatalf("%d, %d", at, e)
	}
	tells(t, r, 32, 49, 32)
	ok(t, r.Sync())
	tells(t, r, 32, 49, 49)
	tells(t, open(t, d, "r", 16), 32, 49, 32)
}

func TestWhatSyncSyncs(t *testing.T) {
	d := with(t, "r00000000", full, "r00000016", "abc", "other", "")
	ok(t, d.Write("r00000000", 0, "A"), d.Write("r00000016", 0, "A"), d.Write("other", 0, "x"))
	r := open(t, d, "r", 16)
	waits := func(want int) {
		t.Helper()
		if d.Waits() != want {
			t.Fatalf("%d writes wait, not %d", d.Waits(), want)
		}
	}
	ok(t, r.Sync()) // all that were opened
	waits(1)
	ok(t, d.Write("r00000000", 1, "B"), d.Write("r00000016", 1, "B"))
	add(t, r, "d")
	waits(4)
	ok(t, r.Sync()) // but now only what the row wrote to
	waits(2)
	if d.Sync("r00000000") != api.OK {
		t.Fatal("Sync")
	}
	add(t, r, letters(12), full, "x")
	waits(4)
	ok(t, r.Sync())
	waits(1)
}

// syncsBy fails, if a Sync makes other than so many calls.
func syncsBy(t *testing.T, d *disk.Disk, r *seg.Row, calls int) {
	t.Helper()
	d.Fuse(calls)
	ok(t, r.Sync())
	if d.Sync() != api.ErrDown {
		t.Fatalf("fewer calls than %d", calls)
	}
	if r.Synced() != r.End() {
		t.Fatalf("synced up to %d, not %d", r.Synced(), r.End())
	}
	d.Crash(disk.Plan{})
}

func TestWhenSyncIsACall(t *testing.T) {
	d, r := three(t)
	syncsBy(t, d, r, 0)
	r = open(t, d, "r", 16)
	syncsBy(t, d, r, 1) // what was opened, by one call
	syncsBy(t, d, r, 0)
	add(t, r, "x")
	syncsBy(t, d, r, 1)
	ok(t, r.Cut(33))
	syncsBy(t, d, r, 0) // a cut is no write
	ok(t, r.Cut(16))
	syncsBy(t, d, r, 0)
	add(t, r, full, full, "y")
	syncsBy(t, d, r, 1)
	add(t, r, letters(15), "z")
	ok(t, r.Cut(64))
	syncsBy(t, d, r, 1)
	add(t, r, "z")
	ok(t, r.Cut(64))
	syncsBy(t, d, r, 0) // all that was written to is gone
	if _, e := r.Drop(); e != api.OK {
		t.Fatal(e)
	}
	syncsBy(t, d, r, 0)
	ok(t, r.Cut(20))
	add(t, r, "abc")
	ok(t, r.Cut(22))
	syncsBy(t, d, r, 1) // what a cut synced counts as not synced
	holds(t, d, "r00000016", full[:4]+"ab")
}

func TestSyncOfAnEmptyOneThatWasOpened(t *testing.T) {
	d := with(t, "r00000000", full, "r00000016", "")
	r := open(t, d, "r", 16)
	ok(t, r.Sync())
	ok(t, r.Cut(16))
	syncsBy(t, d, r, 0)
	d = with(t, "r00000000", "")
	syncsBy(t, d, open(t, d, "r", 16), 1)
}

func TestWhenItGoesDown(t *testing.T) {
	d, r := three(t)
	d.Fuse(0)
	if at, e := r.Append("x"); at != 0 || e != api.ErrDown || !d.Down() {
		t.Fatalf("Append: %d, %d", at, e)
	}
	for i, c := range []struct {
		s    string
		want api.Errno
	}{{"x", api.ErrDown}, {letters(11), api.ErrDown}, {letters(12), api.ErrArg}, {"", api.ErrArg}} {
		if at, e := r.Append(c.s); at != 0 || e != c.want {
			t.Errorf("row %d: %d, %d", i, at, e)
		}
	}
	gives(t, r, 0, 3, "", api.ErrDown)
	gives(t, r, 0, 17, "", api.ErrRange)
	gives(t, r, -1, 1, "", api.ErrRange)
	if r.Cut(3) != api.ErrDown || r.Cut(16) != api.ErrDown || r.Cut(38) != api.ErrRange || r.Cut(-1) != api.ErrRange {
		t.Error("Cut")
	}
	if at, e := r.Drop(); at != 0 || e != api.ErrDown {
		t.Errorf("Drop: %d, %d", at, e)
	}
	tells(t, r, 0, 37, 37) // the looks go on
	if r.Room() != 11 || r.Left(30) != 2 {
		t.Errorf("room %d, left %d", r.Room(), r.Left(30))
	}
	if x, e := seg.Open(d, "r", 16); x != nil || e != api.ErrDown {
		t.Errorf("Open: %v, %d", x, e)
	}
	if x, e := seg.Open(d, "r", 15); x != nil || e != api.ErrArg {
		t.Errorf("Open: %v, %d", x, e)
	}
	d.Crash(disk.Plan{})
	tells(t, open(t, d, "r", 16), 0, 37, 0)
}

func TestSyncOfADiskThatIsDown(t *testing.T) {
	d, r := three(t)
	add(t, r, "x")
	d.Fuse(0)
	if e := r.Sync(); e != api.ErrDown {
		t.Fatalf("%d", e)
	}
	tells(t, r, 0, 38, 37)
	if e := r.Sync(); e != api.ErrDown {
		t.Errorf("%d", e)
	}
	d.Crash(disk.Plan{})
	tells(t, open(t, d, "r", 16), 0, 37, 0)
}

// TestADownDiskThatIsFull: that it is down comes first; and the place that has no name comes last.
func TestADownDiskThatIsFull(t *testing.T) {
	d := disk.New(16)
	ok(t, d.Create("r99999984"), d.Write("r99999984", 0, full))
	r := open(t, d, "r", 16)
	if _, e := r.Append("x"); e != api.ErrFull {
		t.Errorf("%d", e)
	}
	d.Fuse(0)
	ok(t, r.Cut(r.End()))
	if e := d.Sync(); e != api.ErrDown {
		t.Fatalf("%d", e)
	}
	if _, e := r.Append("x"); e != api.ErrDown {
		t.Errorf("%d", e)
	}
}

// TestANewSegmentIsTwoCalls: where the disk goes down between them, an empty one is left.
func TestANewSegmentIsTwoCalls(t *testing.T) {
	for n, want := range [][]string{{"r00000000", full}, {"r00000000", full, "r00000016", ""}, {"r00000000", full, "r00000016", "x"}} {
		d := with(t, "r00000000", full)
		r := open(t, d, "r", 16)
		d.Fuse(n)
		at, e := r.Append("x")
		if down := n < 2; down != (e == api.ErrDown) || down != d.Down() || !down && (at != 16 || e != api.OK) {
			t.Errorf("a fuse of %d: %d, %d", n, at, e)
		}
		tells(t, r, 0, 16+max(n-1, 0), 0)
		d.Crash(disk.Plan{Keep: []bool{true}})
		holds(t, d, want...)
		r = open(t, d, "r", 16)
		add(t, r, "y")
		tells(t, r, 0, 17+max(n-1, 0), 0)
	}
}

func TestWhatACrashLeavesOfARow(t *testing.T) {
	const y, n = true, false
	for i, c := range []struct {
		keep []bool
		lack int
		end  int
		left []string
	}{
		{nil, 0, 4, []string{"r00000000", "abcd"}},
		{[]bool{y, y, y, y, y}, 0, 35, []string{"r00000000", "abcdEEEEEEEEEEEE", "r00000016", full, "r00000032", "xyz"}},
		{[]bool{y, y, y, y, y}, 1, 34, []string{"r00000000", "abcdEEEEEEEEEEEE", "r00000016", full, "r00000032", "xy"}},
		{[]bool{y, y, y, y, n}, 0, 33, []string{"r00000000", "abcdEEEEEEEEEEEE", "r00000016", full, "r00000032", "x"}},
		{[]bool{y, y, y}, 0, 32, []string{"r00000000", "abcdEEEEEEEEEEEE", "r00000016", full, "r00000032", ""}},
		{[]bool{y, y, n, y, y}, 0, 25, []string{"r00000000", "abcdEEEEEEEEEEEE", "r00000016", full[:9]}},
		{[]bool{y, n, y, y, y}, 0, 35, []string{"r00000000", "abcdEEEEEEEEEEEE", "r00000016", "\x00\x00\x00\x00\x00\x00\x00\x00\x00jklmnop", "r00000032", "xyz"}}, // noughts between: the row can't tell
		{[]bool{y, n, n, y, y}, 0, 16, []string{"r00000000", "abcdEEEEEEEEEEEE", "r00000016", ""}},
		{[]bool{y}, 0, 16, []string{"r00000000", "abcdEEEEEEEEEEEE", "r00000016", ""}},
		{[]bool{y}, 2, 14, []string{"r00000000", "abcdEEEEEEEEEE"}},
		{[]bool{n, y, y, y, y}, 0, 4, []string{"r00000000", "abcd"}},
	} {
		d := with(t)
		r := open(t, d, "r", 16)
		add(t, r, "abcd")
		ok(t, r.Sync())
		add(t, r, "EEEEEEEEEEEE", full[:9], full[9:], "x", "yz")
		tells(t, r, 0, 35, 4)
		d.Crash(disk.Plan{Keep: c.keep, Lack: c.lack})
		r = open(t, d, "r", 16)
		if r.Begin() != 0 || r.End() != c.end || r.Synced() != 0 {
			t.Errorf("row %d: from %d to %d, synced up to %d", i, r.Begin(), r.End(), r.Synced())
		}
		holds(t, d, c.left...)
		gives(t, r, 0, 4, "abcd", api.OK)
		add(t, r, "!")
		gives(t, r, c.end, 1, "!", api.OK)
		ok(t, r.Sync())
		d.Crash(disk.Plan{})
		tells(t, open(t, d, "r", 16), 0, c.end+1, 0)
	}
}

// TestACutsCallsOneByOne: where the disk goes down between them, the row, opened anew, ends where the deleted ones began.
func TestACutsCallsOneByOne(t *testing.T) {
	for n, end := range []int{37, 16, 3} {
		d, r := three(t)
		d.Fuse(n)
		if e := r.Cut(3); (e == api.ErrDown) != (n < 2) {
			t.Errorf("a fuse of %d: %d", n, e)
		}
		tells(t, r, 0, end, end)
		d.Crash(disk.Plan{})
		tells(t, open(t, d, "r", 16), 0, end, 0)
	}
}

func TestAFileThatIsInTheWay(t *testing.T) {
	d, r := three(t)
	ok(t, d.Create("r00000048"))
	add(t, r, letters(11))
	if at, e := r.Append("x"); at != 0 || e != api.ErrThere {
		t.Errorf("%d, %d", at, e)
	}
	tells(t, r, 0, 48, 37)
	ok(t, d.Delete("r00000048"))
	add(t, r, "x")
	ok(t, d.Delete("r00000016"))
	gives(t, r, 16, 1, "", api.ErrNone)
	if at, e := r.Drop(); at != 16 || e != api.OK {
		t.Errorf("%d, %d", at, e)
	}
	if at, e := r.Drop(); at != 0 || e != api.ErrNone || r.Begin() != 16 {
		t.Errorf("%d, %d", at, e)
	}
	if e := r.Cut(math.MaxInt); e != api.ErrRange {
		t.Errorf("%d", e)
	}
}
