package tlog_test

import (
	"slices"
	"strings"
	"testing"

	"reveille/api"
	"reveille/disk"
	"reveille/entry"
	"reveille/tlog"
)

// all keeps all that waits.
func all(d *disk.Disk) disk.Plan { return disk.Plan{Keep: slices.Repeat([]bool{true}, d.Waits())} }

// TestNoRoomForALog: what is deleted makes room; where that isn't enough, nothing changes.
func TestNoRoomForALog(t *testing.T) {
	long := strings.Repeat("x", 90)
	for _, c := range []struct {
		capacity int
		l        []string
		want     api.Errno
	}{
		{0, nil, api.ErrFull}, {95, nil, api.ErrFull}, {96, nil, api.OK}, {97, nil, api.OK},
		{102, []string{"f", "1234567"}, api.ErrFull}, {103, []string{"f", "1234567"}, api.OK},
		{95, []string{"w-slots", long, "w-marks", "12345"}, api.ErrFull}, {96, []string{"w-slots", long, "w-marks", "123456"}, api.OK},
	} {
		d := with(t, c.capacity, c.l...)
		if c.want == api.ErrFull {
			d.Fuse(0) // which burns by calls that are done alone
		}
		l, e := tlog.New(d, 5)
		if e != c.want || (l == nil) != (e != api.OK) {
			t.Errorf("%d bytes, %q: %v, %d", c.capacity, c.l, l, e)
		}
		if e != api.OK {
			holds(t, d, c.l...)
		}
		if d.Down() {
			t.Errorf("%d bytes, %q: it is down", c.capacity, c.l)
		}
	}
}

func TestNewOnADiskThatGoesDown(t *testing.T) {
	for _, l := range [][]string{{"w", "y"}, append(of(20, 7, 36, 8).files(), "w", "y", "w-other", "")} {
		calls := 3
		if len(l) > 2 {
			calls = 4
		}
		for fuse := range calls {
			for _, p := range []disk.Plan{{}, {Keep: []bool{true}}, {Keep: []bool{true}, Lack: 50}} {
				d := with(t, 1000, l...)
				d.Fuse(fuse)
				for range 2 {
					if x, e := tlog.New(d, 5); x != nil || e != api.ErrDown {
						t.Errorf("fuse %d: New: %v, %d", fuse, x, e)
					}
				}
				if !d.Down() || fuse == 0 && !d.Same(with(t, 1000, l...)) {
					t.Errorf("fuse %d: %q", fuse, d.List(""))
				}
				d.Crash(p)
				x := fresh(t, d, 5)
				holds(t, d, append([]string{"w", "y"}, of().files()...)...)
				tells(t, x, of(), 5)
			}
		}
		d := with(t, 1000, l...)
		d.Fuse(calls)
		fresh(t, d, 5)
		if d.Sync() != api.ErrDown {
			t.Errorf("of %q: there were fewer calls than %d", l, calls)
		}
	}
}

// TestAFullDisk: there is room for so many marks; of one that is refused nothing is left.
func TestAFullDisk(t *testing.T) {
	for _, capacity := range []int{96, 97, 115, 116, 117, 135, 136, 200, 256} {
		d := disk.New(capacity)
		l := fresh(t, d, 5)
		s := of()
		for i := range (capacity - 96) / 20 {
			put(t, l, 20+i%3, i)
			s.put(20+i%3, i, 1)
		}
		for i := range 6 {
			if e := l.Put(20+i, 9); e != api.ErrFull {
				t.Fatalf("%d bytes: Put: %d", capacity, e)
			}
			is(t, d, l, s, 5)
		}
		is(t, d, fresh(t, d, 5), of(), 5) // there is room again
	}
}

// TestNoRoomToRollOn: a slot of which not all that is due later can be put again isn't taken, and the hand doesn't go on; where all is due no room is needed.
func TestNoRoomToRollOn(t *testing.T) {
	records := []int{20, 1, 4, 2, 36, 3, 20, 4, 5, 5}
	for room := range 60 {
		d := disk.New(96 + 100 + room)
		l := fresh(t, d, 3)
		put(t, l, records...)
		d.Fuse(0)
		for range 3 {
			if c, e := l.Take(4); len(c) != 0 || e != api.ErrFull {
				t.Fatalf("room for %d: Take: %v, %d", room, c, e)
			}
			if c, ok, e := l.Next(9); len(c) != 0 || ok || e != api.ErrFull {
				t.Fatalf("room for %d: Next: %v, %t, %d", room, c, ok, e)
			}
			if d.Down() {
				t.Fatalf("room for %d: it was a call", room)
			}
			is(t, d, l, of(records...), 3)
		}
		d.Fuse(-1)
		s := of(records...)
		takes(t, l, 36, s.take(36)...)
		is(t, d, l, s, 3)
		goes(t, l, 9)
		goes(t, l, 9, s.take(5)...)
		is(t, d, l, s, 5)
	}
	d := disk.New(96 + 160)
	l := fresh(t, d, 3)
	put(t, l, records...)
	s := of(records...)
	goes(t, l, 4, s.take(4)...)
	is(t, d, l, s, 4)
}

// TestCalls: a Put takes two calls of the disk, and so does a Take that puts again, however many; one that doesn't takes one.
func TestCalls(t *testing.T) {
	for _, c := range []struct {
		what  string
		calls int
		call  func(l *tlog.Log) api.Errno
	}{
		{"Put", 2, func(l *tlog.Log) api.Errno { return l.Put(20, 9) }},
		{"Take of some", 2, func(l *tlog.Log) api.Errno { _, e := l.Take(4); return e }},
		{"Take of all", 1, func(l *tlog.Log) api.Errno { _, e := l.Take(36); return e }},
		{"Take of none", 0, func(l *tlog.Log) api.Errno { _, e := l.Take(7); return e }},
		{"Next", 2, func(l *tlog.Log) api.Errno { _, _, e := l.Next(5); return e }},
		{"no Next", 0, func(l *tlog.Log) api.Errno { _, _, e := l.Next(3); return e }},
		{"Chain", 0, func(l *tlog.Log) api.Errno { _, e := l.Chain(4); return e }},
		{"Waits", 0, func(l *tlog.Log) api.Errno { _, e := l.Waits(); return e }},
	} {
		records := []int{20, 1, 4, 2, 36, 3, 20, 4}
		for fuse := range c.calls {
			for _, p := range []disk.Plan{{}, {Keep: []bool{true, true, true, false, true, true, true, true}}} {
				d, l := begun(t, 3)
				put(t, l, records...)
				d.Fuse(fuse)
				for range 2 {
					if e := c.call(l); e != api.ErrDown || !d.Down() {
						t.Fatalf("%s, fuse %d: %d", c.what, fuse, e)
					}
					if l.Len() != 4 || l.Hand() != 3 {
						t.Fatalf("%s, fuse %d: Len: %d; Hand: %d", c.what, fuse, l.Len(), l.Hand())
					}
					isDown(t, l)
				}
				d.Crash(all(d))
				tells(t, l, of(records...), 3) // what was refused changed nothing
				if e := c.call(l); e != api.OK {
					t.Fatalf("%s: %d", c.what, e)
				}
				d.Crash(p)
				is(t, d, fresh(t, d, 8), of(), 8)
			}
		}
		d, l := begun(t, 3)
		put(t, l, records...)
		d.Fuse(c.calls)
		if e := c.call(l); e != api.OK || d.Down() {
			t.Errorf("%s: %d, more than %d calls", c.what, e, c.calls)
		}
		if d.Sync() != api.ErrDown {
			t.Errorf("%s: fewer than %d calls", c.what, c.calls)
		}
	}
}

// isDown fails, if a timer log whose disk is down does something, or tells something of its marks.
func isDown(t *testing.T, l *tlog.Log) {
	t.Helper()
	if e := l.Put(l.Hand()+1, 5); e != api.ErrDown {
		t.Fatalf("Put, down: %d", e)
	}
	for n := range slots {
		if c, e := l.Chain(n); len(c) != 0 || e != api.ErrDown {
			t.Fatalf("Chain of %d, down: %v, %d", n, c, e)
		}
		if c, e := l.Take(n); len(c) != 0 || e != api.ErrDown {
			t.Fatalf("Take of %d, down: %v, %d", n, c, e)
		}
		if c, ok, e := l.Next(l.Hand() + 1 + n); len(c) != 0 || ok || e != api.ErrDown {
			t.Fatalf("Next, down: %v, %t, %d", c, ok, e)
		}
	}
	stays(t, l, l.Hand())
	if n, e := l.Waits(); n != 0 || e != api.ErrDown {
		t.Fatalf("Waits, down: %d, %d", n, e)
	}
}

// TestWhichErrorIsFirst: of several that are due the one that the chapter names first is told.
func TestWhichErrorIsFirst(t *testing.T) {
	d := disk.New(96)
	l := fresh(t, d, 5)
	rows := []struct{ due, at, want int }{{-1, 0, int(api.ErrArg)}, {5, -1, int(api.ErrArg)}, {9, top + 1, int(api.ErrArg)}, {5, 0, int(api.ErrLate)}, {0, top, int(api.ErrLate)}}
	for _, last := range []api.Errno{api.ErrFull, api.ErrDown} { // and not that it is full
		for _, c := range rows {
			if e := l.Put(c.due, c.at); int(e) != c.want {
				t.Errorf("Put of %d, %d: %d, not %d", c.due, c.at, e, c.want)
			}
		}
		if e := l.Put(6, 0); e != last {
			t.Errorf("Put: %d, not %d", e, last)
		}
		if c, e := l.Take(-1); len(c) != 0 || e != api.ErrArg {
			t.Errorf("Take: %v, %d", c, e)
		}
		d.Fuse(0)
		d.Sync()
	}
	if x, e := tlog.New(d, -1); x != nil || e != api.ErrArg {
		t.Errorf("New: %v, %d", x, e)
	}
	if x, e := tlog.New(d, 0); x != nil || e != api.ErrDown {
		t.Errorf("New: %v, %d", x, e)
	}
}

// TestNothingIsSynced: the timer log may be lost at any time, and is made anew; so nothing lasts that needn't.
func TestNothingIsSynced(t *testing.T) {
	d, l := begun(t, 3)
	put(t, l, 20, 1, 4, 2)
	goes(t, l, 4, entry.Mark{Due: 4, At: 2, Ahead: 1, Puts: 1})
	if d.Waits() != 7 { // of the noughts, and two each of two Puts and a Take
		t.Errorf("%d writes wait", d.Waits())
	}
	d.Crash(disk.Plan{})
	holds(t, d, "w-marks", "", "w-slots", "")
}

// TestFilesThatAreSpoilt: the disk's error is told, and nothing is changed.
func TestFilesThatAreSpoilt(t *testing.T) {
	for i, c := range []struct {
		spoil func(d *disk.Disk) api.Errno
		want  api.Errno
		put   bool // is a Put refused, too?
	}{
		{func(d *disk.Disk) api.Errno { return d.Delete("w-slots") }, api.ErrNone, true},
		{func(d *disk.Disk) api.Errno { return d.Cut("w-slots", 29) }, api.ErrRange, true},
		{func(d *disk.Disk) api.Errno { return d.Delete("w-marks") }, api.ErrNone, true},
		{func(d *disk.Disk) api.Errno { return d.Cut("w-marks", 59) }, api.ErrRange, true},
		{func(d *disk.Disk) api.Errno { return d.Cut("w-marks", 0) }, api.ErrRange, true},
		{func(d *disk.Disk) api.Errno { return d.Write("w-slots", 24, number(6, 4)) }, api.ErrRange, false},
		{func(d *disk.Disk) api.Errno { return d.Write("w-slots", 24, number(6, 1<<48-1)) }, api.ErrRange, false},
	} {
		d, l := begun(t, 3)
		put(t, l, 20, 1, 4, 2, 36, 3)
		if e := c.spoil(d); e != api.OK {
			t.Fatal(e)
		}
		was := with(t, 1<<20, contents(d)...)
		if m, e := l.Chain(4); len(m) != 0 || e != c.want {
			t.Errorf("row %d: Chain: %v, %d", i, m, e)
		}
		if m, e := l.Take(4); len(m) != 0 || e != c.want {
			t.Errorf("row %d: Take: %v, %d", i, m, e)
		}
		if m, ok, e := l.Next(9); len(m) != 0 || ok || e != c.want || l.Hand() != 3 {
			t.Errorf("row %d: Next: %v, %t, %d; Hand: %d", i, m, ok, e, l.Hand())
		}
		if n, e := l.Waits(); n != 0 || e != c.want {
			t.Errorf("row %d: Waits: %d, %d", i, n, e)
		}
		if c.put {
			if e := l.Put(20, 9); e != c.want {
				t.Errorf("row %d: Put: %d", i, e)
			}
		}
		if l.Len() != 3 || !d.Same(was) {
			t.Errorf("row %d: Len: %d, and it holds %q", i, l.Len(), contents(d))
		}
	}
}

func contents(d *disk.Disk) []string {
	var l []string
	for _, f := range d.List("") {
		s, _ := d.All(f)
		l = append(l, f, s)
	}
	return l
}

// TestChainsThatAreNone: whatever stands in the files, each call ends.
func TestChainsThatAreNone(t *testing.T) {
	for _, ahead := range []int{1, 2, 3, 4, 1<<48 - 1} {
		for last := range 5 {
			d, l := begun(t, 3)
			put(t, l, 20, 1, 36, 2, 52, 3)
			for n := range 3 {
				if e := d.Write("w-marks", 20*n+12, number(6, ahead)); e != api.OK {
					t.Fatal(e)
				}
			}
			if e := d.Write("w-slots", 24, number(6, last)); e != api.OK {
				t.Fatal(e)
			}
			l.Chain(4)
			l.Waits()
			l.Put(20, 4)
			l.Take(4)
			l.Next(9)
		}
	}
	text := strings.Repeat("\xff", 4000)
	for n := range 200 {
		d, l := begun(t, 3)
		put(t, l, 20, 1, 36, 2, 52, 3)
		d.Write("w-marks", 0, text[:n])
		d.Write("w-slots", n%97, text[:97-n%97])
		l.Chain(4)
		l.Waits()
		l.Take(4)
		l.Put(20, 4)
		l.Next(9)
		is(t, d, fresh(t, d, 5), of(), 5)
	}
}
