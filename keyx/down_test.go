package keyx_test

import (
	"math"
	"slices"
	"strings"
	"testing"

	"reveille/api"
	"reveille/disk"
	"reveille/keyx"
)

// nth is an entry, of one of three keys.
func nth(n int) item { return item{"a", string("ksj"[n%3]), 41 * n, 7 * n} }

// several is the first so many.
func several(n int) []item {
	l := make([]item, n)
	for i := range l {
		l[i] = nth(i)
	}
	return l
}

// TestAFullDisk: there is room for so many entries; of one that is refused nothing is left.
func TestAFullDisk(t *testing.T) {
	for _, capacity := range []int{24, 25, 43, 44, 45, 63, 64, 200, 224} {
		d := disk.New(capacity)
		x := fresh(t, d)
		l := several((capacity - 24) / 20)
		add(t, x, l...)
		for i := range 6 {
			v := nth(i)
			if e := x.Add(v.topic, v.key, v.at, v.born); e != api.ErrFull {
				t.Fatalf("%d bytes: Add: %d", capacity, e)
			}
			is(t, d, x, l...)
		}
		if capacity < 44 {
			continue
		}
		x = fresh(t, d) // there is room again
		add(t, x, l...)
		is(t, d, x, l...)
	}
}

// TestNoRoomForAnIndex: what is deleted makes room; where that isn't enough, nothing changes.
func TestNoRoomForAnIndex(t *testing.T) {
	for _, c := range []struct {
		capacity int
		l        []string
		want     api.Errno
	}{
		{0, nil, api.ErrFull}, {23, nil, api.ErrFull}, {24, nil, api.OK}, {25, nil, api.OK},
		{30, []string{"f", "1234567"}, api.ErrFull}, {31, []string{"f", "1234567"}, api.OK},
		{23, []string{"x-links", "12345678901234567890", "x-other", "123"}, api.ErrFull}, {24, []string{"x-links", "12345678901234567890", "x-slots", "1234"}, api.OK},
		{26, []string{"f", "123", "x-links", "12345678901234567890", "x-slots", "123"}, api.ErrFull}, {27, []string{"f", "123", "x-", "12345678901234567890", "x-a", "1234"}, api.OK},
	} {
		d := with(t, c.capacity, c.l...)
		if c.want == api.ErrFull {
			d.Fuse(0) // which burns by calls that are done alone
		}
		x, e := keyx.New(d)
		if e != c.want || (x == nil) != (e != api.OK) {
			t.Errorf("%d bytes, %q: %v, %d", c.capacity, c.l, x, e)
		}
		if e != api.OK {
			holds(t, d, c.l...)
		}
		if d.Down() {
			t.Errorf("%d bytes, %q: it is down", c.capacity, c.l)
		}
	}
}

func TestNewOnADiskThatGoesDown(t *testing.T) {
	for _, l := range [][]string{{"x", "y"}, {"x", "y", "x-links", "old", "x-slots", strings.Repeat("\x01", 24), "x-other", ""}} {
		calls := 3
		if len(l) > 2 {
			calls = 4
		}
		for fuse := range calls {
			d := with(t, 1<<20, l...)
			d.Fuse(fuse)
			for range 2 {
				if x, e := keyx.New(d); x != nil || e != api.ErrDown {
					t.Errorf("fuse %d: New: %v, %d", fuse, x, e)
				}
			}
			if !d.Down() || fuse == 0 && !d.Same(with(t, 1<<20, l...)) {
				t.Errorf("fuse %d: %q", fuse, d.List(""))
			}
			d.Crash(disk.Plan{Keep: []bool{fuse%2 == 0}, Lack: fuse})
			x := fresh(t, d)
			holds(t, d, append([]string{"x", "y"}, files()...)...)
			tells(t, x)
		}
	}
}

// TestCallsOfAdd: each takes two calls of the disk.
func TestCallsOfAdd(t *testing.T) {
	d, x := empty(t)
	for i := range 12 {
		d.Fuse(2)
		add(t, x, nth(i))
		if e := d.Sync(); e != api.ErrDown {
			t.Fatalf("entry %d took fewer calls than two", i)
		}
		d.Crash(all(d))
	}
	is(t, d, x, several(12)...)
}

// all keeps all that waits.
func all(d *disk.Disk) disk.Plan { return disk.Plan{Keep: slices.Repeat([]bool{true}, d.Waits())} }

// TestItGoesDownAtEachCall: an Add that is refused, also amid it, adds nothing: not while the disk is down, nor, if a crash loses nothing, behind that.
func TestItGoesDownAtEachCall(t *testing.T) {
	for fuse := range 40 {
		d, x := empty(t)
		d.Fuse(fuse)
		n := fuse / 2
		add(t, x, several(n)...)
		for range 2 {
			v := nth(n)
			if e := x.Add(v.topic, v.key, v.at, v.born); e != api.ErrDown || !d.Down() {
				t.Fatalf("fuse %d: Add: %d", fuse, e)
			}
			isDown(t, x, n)
		}
		if x, e := keyx.New(d); x != nil || e != api.ErrDown {
			t.Fatalf("fuse %d: New, down: %v, %d", fuse, x, e)
		}
		d.Crash(all(d))
		tells(t, x, several(n)...)
		add(t, x, nth(n+1)) // another one
		is(t, d, x, append(several(n), nth(n+1))...)
		d.Crash(disk.Plan{Keep: slices.Repeat([]bool{true, false, true}, d.Waits()), Lack: fuse % 5})
		x = fresh(t, d)
		is(t, d, x)
		add(t, x, several(4)...)
		is(t, d, x, several(4)...)
	}
}

// isDown fails, if an index of so many entries, whose disk is down, tells another thing than how many these are.
func isDown(t *testing.T, x *keyx.Index, n int) {
	t.Helper()
	if x.Len() != n {
		t.Fatalf("Len, down: %d, not %d", x.Len(), n)
	}
	for b := -1; b <= buckets; b++ {
		if l := x.Chain(b); len(l) != 0 {
			t.Fatalf("Chain of %d, down: %v", b, l)
		}
	}
	for _, key := range []string{"k", "s", "j", "none", ""} {
		for _, most := range []int{0, 1, 99} {
			if l, e := x.Find("a", key, 0, most); len(l) != 0 || e != api.ErrDown {
				t.Fatalf("Find of %q, down: %v, %d", key, l, e)
			}
		}
	}
}

// TestWhichErrorIsFirst: of several that are due the one that the chapter names first is told; what is refused is no call of the disk.
func TestWhichErrorIsFirst(t *testing.T) {
	rows := []struct {
		v    item
		want api.Errno
	}{
		{item{"A", "", -1, -1}, api.ErrName}, {item{"A", "k", -1, 0}, api.ErrName}, {item{"a", "", 0, -1}, api.ErrName}, {item{"A", "k", 0, 0}, api.ErrName}, {item{"a", "k k", 0, 0}, api.ErrName},
		{item{"a", "k", -1, 0}, api.ErrArg}, {item{"a", "k", 0, -1}, api.ErrArg}, {item{"a", "k", api.MaxNum + 1, 0}, api.ErrArg}, {item{"a", "k", 0, api.MaxNum + 1}, api.ErrArg},
	}
	full := disk.New(24)
	x := fresh(t, full)
	full.Fuse(0)
	ask := func(v item, want api.Errno) {
		t.Helper()
		if e := x.Add(v.topic, v.key, v.at, v.born); e != want {
			t.Errorf("Add of %+v: %d, not %d", v, e, want)
		}
	}
	for _, c := range append(rows, struct {
		v    item
		want api.Errno
	}{item{"a", "k", 0, 0}, api.ErrFull}) {
		ask(c.v, c.want)
	}
	is(t, full, x)
	if full.Sync() != api.ErrDown {
		t.Fatal("there is no fuse any more")
	}
	for _, c := range rows {
		ask(c.v, c.want)
	}
	ask(item{"a", "k", 0, 0}, api.ErrDown) // and not that it is full
	if x, e := keyx.New(full); x != nil || e != api.ErrDown {
		t.Errorf("New: %v, %d", x, e)
	}
	none := disk.New(0)
	none.Fuse(0)
	if none.Sync() != api.ErrDown {
		t.Fatal("it isn't down")
	}
	if x, e := keyx.New(none); x != nil || e != api.ErrDown {
		t.Errorf("New: %v, %d", x, e)
	}
}

// TestFilesThatAreGone: the disk's error is told, and nothing is changed.
func TestFilesThatAreGone(t *testing.T) {
	for _, c := range []struct {
		spoil func(d *disk.Disk) api.Errno
		want  api.Errno
	}{
		{func(d *disk.Disk) api.Errno { return d.Delete("x-slots") }, api.ErrNone},
		{func(d *disk.Disk) api.Errno { return d.Cut("x-slots", 5) }, api.ErrRange},
		{func(d *disk.Disk) api.Errno { return d.Delete("x-links") }, api.ErrNone},
		{func(d *disk.Disk) api.Errno { return d.Cut("x-links", 79) }, api.ErrRange},
		{func(d *disk.Disk) api.Errno { return d.Cut("x-links", 0) }, api.ErrRange},
	} {
		d, x := empty(t)
		for i := range 5 {
			add(t, x, item{"a", "k", i, i})
		}
		if e := c.spoil(d); e != api.OK {
			t.Fatal(e)
		}
		was, _ := d.All("x-links")
		if e := x.Add("a", "k", 9, 9); e != c.want || x.Len() != 5 {
			t.Errorf("Add: %d; Len: %d", e, x.Len())
		}
		if l, e := x.Find("a", "k", 0, 99); len(l) != 0 || e != c.want {
			t.Errorf("Find: %v, %d", l, e)
		}
		if l := x.Chain(1); len(l) != 0 {
			t.Errorf("Chain: %v", l)
		}
		if s, _ := d.All("x-links"); s != was {
			t.Errorf("Add left %q, not %q", s, was)
		}
	}
}

// TestChainsThatAreNone: whatever stands in the files, each call ends.
func TestChainsThatAreNone(t *testing.T) {
	for _, ahead := range []string{"\x00\x00\x03", "\x00\x00\x02", "\x00\x00\x04", "\xff\xff\xff"} {
		d, x := empty(t)
		for i := range 3 {
			add(t, x, item{"a", "k", i, i})
		}
		for n := range 3 {
			if e := d.Write("x-links", 20*n+17, ahead); e != api.OK {
				t.Fatal(e)
			}
		}
		x.Find("a", "k", 0, math.MaxInt)
		x.Chain(1)
		x.Add("a", "k", 3, 3)
		if x.Len() != 4 {
			t.Errorf("Len: %d", x.Len())
		}
	}
}
