package wheel_test

import (
	"slices"
	"strings"
	"testing"

	"reveille/api"
	"reveille/disk"
	"reveille/wheel"
)

// all keeps all that waits.
func all(d *disk.Disk) disk.Plan { return disk.Plan{Keep: slices.Repeat([]bool{true}, d.Waits())} }

// TestNoRoomForAWheel: what is deleted makes room; where that isn't enough, nothing changes.
func TestNoRoomForAWheel(t *testing.T) {
	long := strings.Repeat("x", 90)
	for _, c := range []struct {
		capacity int
		l        []string
		want     api.Errno
	}{
		{0, nil, api.ErrFull}, {95, nil, api.ErrFull}, {96, nil, api.OK}, {97, nil, api.OK},
		{102, []string{"f", "1234567"}, api.ErrFull}, {103, []string{"f", "1234567"}, api.OK},
		{95, []string{"w-slots", long, "w-marks", "12345"}, api.ErrFull}, {96, []string{"w-slots", long, "w-marks", "123456"}, api.OK},
		{98, []string{"f", "123", "w-slots", long, "w-other", "12345"}, api.ErrFull}, {99, []string{"f", "123", "w-", long, "w-a", "123456"}, api.OK},
	} {
		d := with(t, c.capacity, c.l...)
		if c.want == api.ErrFull {
			d.Fuse(0) // which burns by calls that are done alone
		}
		w, e := wheel.New(d, 5)
		if e != c.want || (w == nil) != (e != api.OK) {
			t.Errorf("%d bytes, %q: %v, %d", c.capacity, c.l, w, e)
		}
		if e != api.OK {
			holds(t, d, c.l...)
		}
		if d.Down() {
			t.Errorf("%d bytes, %q: it is down", c.capacity, c.l)
		}
	}
}

// TestAFullDisk: a wheel that is there needs no room any more.
func TestAFullDisk(t *testing.T) {
	d := disk.New(96)
	w := fresh(t, d, 5)
	setAll(t, w, some())
	setAll(t, w, marks{3: greatest})
	is(t, d, w, marks{3: greatest}, 5)
}

func TestNewOnADiskThatGoesDown(t *testing.T) {
	for _, l := range [][]string{{"w", "y"}, {"w", "y", "w-slots", strings.Repeat("\x01", 96), "w-marks", "old", "w-other", ""}} {
		calls := 2
		if len(l) > 2 {
			calls = 3
		}
		for fuse := range calls {
			for _, p := range []disk.Plan{{}, {Keep: []bool{true}}, {Keep: []bool{true}, Lack: 50}} {
				d := with(t, 1000, l...)
				d.Fuse(fuse)
				for range 2 {
					if w, e := wheel.New(d, 5); w != nil || e != api.ErrDown {
						t.Errorf("fuse %d: New: %v, %d", fuse, w, e)
					}
				}
				if !d.Down() || fuse == 0 && !d.Same(with(t, 1000, l...)) {
					t.Errorf("fuse %d: %q", fuse, d.List(""))
				}
				d.Crash(p)
				w := fresh(t, d, 5)
				holds(t, d, "w", "y", "w-slots", bytesOf(marks{}))
				tells(t, w, marks{}, 5)
			}
		}
	}
}

// TestCallsOfSet: each takes one call of the disk, also of what stands there already; a look takes none.
func TestCallsOfSet(t *testing.T) {
	d, w := begun(t, 5)
	m := some()
	for slot, n := range m {
		for range 2 {
			d.Fuse(1)
			set(t, w, slot, n)
			w.Turn(1000)
			if x, e := w.Head(slot); x != n || e != api.OK {
				t.Fatalf("Head of %d: %d, %d", slot, x, e)
			}
			if _, e := w.Heads(); e != api.OK || d.Down() {
				t.Fatalf("Heads: %d", e)
			}
			if e := d.Sync(); e != api.ErrDown {
				t.Fatalf("Set of %d was no call", slot)
			}
			d.Crash(all(d))
		}
	}
	is(t, d, w, m, 5+2*slots)
}

// TestItGoesDown: what is set then isn't; the hand goes on, as it is in no file.
func TestItGoesDown(t *testing.T) {
	for fuse := range slots {
		d, w := begun(t, 5)
		d.Fuse(fuse)
		var m marks
		for slot := range fuse {
			m[slot] = some()[slot]
			set(t, w, slot, m[slot])
		}
		for range 2 {
			if e := w.Set(fuse, 5); e != api.ErrDown || !d.Down() {
				t.Fatalf("fuse %d: Set: %d", fuse, e)
			}
		}
		isDown(t, w)
		if x, e := wheel.New(d, 5); x != nil || e != api.ErrDown {
			t.Fatalf("New, down: %v, %d", x, e)
		}
		if n, ok := w.Turn(7); n != 6 || !ok || w.Hand() != 6 || w.Ahead(9) != 3 {
			t.Fatalf("Turn, down: %d, %t; Hand: %d; Ahead: %d", n, ok, w.Hand(), w.Ahead(9))
		}
		d.Crash(all(d))
		is(t, d, w, m, 6)
		d.Crash(disk.Plan{})
		w = fresh(t, d, 5)
		is(t, d, w, marks{}, 5)
		setAll(t, w, some())
		is(t, d, w, some(), 5)
	}
}

// isDown fails, if a wheel whose disk is down tells something of its slots.
func isDown(t *testing.T, w *wheel.Wheel) {
	t.Helper()
	for slot := range slots {
		if n, e := w.Head(slot); n != 0 || e != api.ErrDown {
			t.Fatalf("Head of %d, down: %d, %d", slot, n, e)
		}
	}
	if l, e := w.Heads(); len(l) != 0 || e != api.ErrDown {
		t.Fatalf("Heads, down: %v, %d", l, e)
	}
}

// TestNothingIsSynced: the wheel may be lost at any time, and is made anew; so nothing lasts that needn't.
func TestNothingIsSynced(t *testing.T) {
	d, w := begun(t, 5)
	setAll(t, w, some())
	if d.Waits() != 1+slots {
		t.Errorf("%d writes wait", d.Waits())
	}
	d.Crash(disk.Plan{Keep: []bool{true, true, false, true}, Lack: 2})
	holds(t, d, "w-slots", bytesOf(marks{0: some()[0], 2: some()[2] >> 16 << 16}))
}

// TestWhichErrorIsFirst: of several that are due the one that the chapter names first is told.
func TestWhichErrorIsFirst(t *testing.T) {
	none := disk.New(0)
	if _, e := wheel.New(none, 0); e != api.ErrFull {
		t.Errorf("New: %d", e)
	}
	none.Fuse(0)
	if none.Sync() != api.ErrDown {
		t.Fatal("it isn't down")
	}
	if w, e := wheel.New(none, 0); w != nil || e != api.ErrDown { // and not that it is full
		t.Errorf("New: %v, %d", w, e)
	}
	if w, e := wheel.New(none, -1); w != nil || e != api.ErrArg {
		t.Errorf("New: %v, %d", w, e)
	}
}

// TestAFileThatIsSpoilt: the disk's error is told, and nothing is changed.
func TestAFileThatIsSpoilt(t *testing.T) {
	for _, c := range []struct {
		left  int    // bytes; below 0: it is gone
		heads [2]int // of a slot that is still there, and of one that isn't
		want  api.Errno
	}{{-1, [2]int{-1, 0}, api.ErrNone}, {0, [2]int{-1, 0}, api.ErrRange}, {5, [2]int{-1, 0}, api.ErrRange}, {6, [2]int{0, 1}, api.ErrRange}, {50, [2]int{7, 8}, api.ErrRange}, {95, [2]int{14, 15}, api.ErrRange}} {
		d, w := begun(t, 5)
		setAll(t, w, some())
		if e := spoil(d, c.left); e != api.OK {
			t.Fatal(e)
		}
		if slot := c.heads[0]; slot >= 0 {
			if n, e := w.Head(slot); n != some()[slot] || e != api.OK {
				t.Errorf("%d left: Head of %d: %d, %d", c.left, slot, n, e)
			}
		}
		if n, e := w.Head(c.heads[1]); n != 0 || e != c.want {
			t.Errorf("%d left: Head of %d: %d, %d", c.left, c.heads[1], n, e)
		}
		if l, e := w.Heads(); len(l) != 0 || e != c.want {
			t.Errorf("%d left: Heads: %v, %d", c.left, l, e)
		}
		if w.Hand() != 5 {
			t.Errorf("Hand: %d", w.Hand())
		}
	}
	d, w := begun(t, 5)
	if d.Delete("w-slots") != api.OK || w.Set(0, 5) != api.ErrNone || len(d.List("")) != 0 {
		t.Errorf("Set of a file that is gone left %q", d.List(""))
	}
	d, w = begun(t, 5)
	if d.Cut("w-slots", 11) != api.OK || w.Set(2, 5) != api.ErrRange || d.Len("w-slots") != 11 {
		t.Errorf("Set of a slot that is gone left %d bytes", d.Len("w-slots"))
	}
}

func spoil(d *disk.Disk, left int) api.Errno {
	if left < 0 {
		return d.Delete("w-slots")
	}
	return d.Cut("w-slots", left)
}
