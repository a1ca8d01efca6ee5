package wheel_test

import (
	"math"
	"slices"
	"strings"
	"testing"

	"reveille/api"
	"reveille/disk"
	"reveille/wheel"
)

// All tests of this package hold promise P15.1: all are what the chapter says.

const (
	slots    = 16
	empty    = 96        // bytes
	top      = 1 << 40   // the greatest hand that is handed in
	greatest = 1<<48 - 1 // the greatest number of a mark
)

// marks is what stands in the slots.
type marks [slots]int

func fresh(t *testing.T, d *disk.Disk, hand int) *wheel.Wheel {
	t.Helper()
	w, e := wheel.New(d, hand)
	if e != api.OK || w == nil {
		t.Fatalf("New at %d: %v, %d", hand, w, e)
	}
	return w
}

// begun is a wheel without marks, and its disk.
func begun(t *testing.T, hand int) (*disk.Disk, *wheel.Wheel) {
	t.Helper()
	d := disk.New(1000)
	return d, fresh(t, d, hand)
}

func set(t *testing.T, w *wheel.Wheel, slot, n int) {
	t.Helper()
	if e := w.Set(slot, n); e != api.OK {
		t.Fatalf("Set of %d, %d: %d", slot, n, e)
	}
}

// some is slots of which each byte is another one, but for the highest.
func some() marks {
	var m marks
	for i := range m {
		for j := range 5 {
			m[i] = m[i]<<8 + 5*i + j + 1
		}
	}
	return m
}

func setAll(t *testing.T, w *wheel.Wheel, m marks) {
	t.Helper()
	for slot, n := range m {
		set(t, w, slot, n)
	}
}

// bytesOf is the file of such slots, as chapters 1 and 15 say it.
func bytesOf(m marks) string {
	var b []byte
	for _, n := range m {
		for i := 5; i >= 0; i-- {
			b = append(b, byte(n>>(8*i)))
		}
	}
	return string(b)
}

// with is a disk with files, of name, bytes, name, bytes .., synced.
func with(t *testing.T, capacity int, l ...string) *disk.Disk {
	t.Helper()
	d := disk.New(capacity)
	for i := 0; i < len(l); i += 2 {
		e, w, s := d.Create(l[i]), d.Write(l[i], 0, l[i+1]), d.Sync(l[i])
		if e != api.OK || w != api.OK || s != api.OK {
			t.Fatalf("%q: %d, %d, %d", l[i], e, w, s)
		}
	}
	return d
}

// holds fails, if a disk's files, or the bytes in them, are others than these.
func holds(t *testing.T, d *disk.Disk, l ...string) {
	t.Helper()
	if !d.Same(with(t, 1<<24, l...)) {
		for _, f := range d.List("") {
			s, e := d.All(f)
			t.Logf("%q: %q, %d", f, s, e)
		}
		t.Fatalf("it doesn't hold %q", l)
	}
}

// tells fails, if a wheel tells other slots, or another hand.
func tells(t *testing.T, w *wheel.Wheel, m marks, hand int) {
	t.Helper()
	for slot, want := range m {
		if n, e := w.Head(slot); n != want || e != api.OK {
			t.Fatalf("Head of %d: %d, %d, not %d", slot, n, e, want)
		}
	}
	if l, e := w.Heads(); !slices.Equal(l, m[:]) || e != api.OK {
		t.Fatalf("Heads: %v, %d, not %v", l, e, m)
	}
	if n := w.Hand(); n != hand {
		t.Fatalf("Hand: %d, not %d", n, hand)
	}
}

// is fails, if a wheel, with a disk of its own, isn't of these slots, and this hand.
func is(t *testing.T, d *disk.Disk, w *wheel.Wheel, m marks, hand int) {
	t.Helper()
	holds(t, d, "w-slots", bytesOf(m))
	tells(t, w, m, hand)
}

func TestExample(t *testing.T) {
	d, w := begun(t, 5)
	for _, want := range []int{6, 7} {
		if n, ok := w.Turn(7); n != want || !ok {
			t.Errorf("Turn: %d, %t, not %d", n, ok, want)
		}
	}
	if n, ok := w.Turn(7); n != 0 || ok {
		t.Errorf("Turn: %d, %t", n, ok)
	}
	is(t, d, w, marks{}, 7)
}

func TestAWheelWithoutMarks(t *testing.T) {
	for _, hand := range []int{0, 1, 5, 15, 16, 96, top - 1, top} {
		d, w := begun(t, hand)
		is(t, d, w, marks{}, hand)
		if s, e := d.All("w-slots"); s != strings.Repeat("\x00", empty) || e != api.OK {
			t.Errorf("%q, %d", s, e)
		}
	}
}

func TestHandsThatMayNotBe(t *testing.T) {
	for _, hand := range []int{math.MinInt, -top, -1, top + 1, 1 << 48, math.MaxInt} {
		d := with(t, 1000, "w-slots", "old")
		d.Fuse(0)
		if w, e := wheel.New(d, hand); w != nil || e != api.ErrArg {
			t.Errorf("New at %d: %v, %d", hand, w, e)
		}
		if w, e := wheel.New(nil, hand); w != nil || e != api.ErrArg {
			t.Errorf("New of nil at %d: %v, %d", hand, w, e)
		}
		holds(t, d, "w-slots", "old")
		if d.Down() {
			t.Errorf("at %d the disk was asked", hand)
		}
	}
}

// TestEachSlot: each is set to each edge, and the others stay as they were.
func TestEachSlot(t *testing.T) {
	d, w := begun(t, 3)
	m := some()
	setAll(t, w, m)
	is(t, d, w, m, 3)
	for slot := range m {
		for _, n := range []int{0, 1, 255, 256, 1<<24 - 1, 1 << 24, 1<<32 - 1, 1 << 32, top, top + 1, 1<<47 + 1, greatest - 1, greatest, greatest, 7, 0, 258} {
			m[slot] = n
			set(t, w, slot, n)
			is(t, d, w, m, 3)
		}
	}
}

// TestTheBytes: six of a slot, the highest first.
func TestTheBytes(t *testing.T) {
	d, w := begun(t, 0)
	set(t, w, 0, 0x010203040506)
	set(t, w, 15, 0xfffefdfcfbfa)
	set(t, w, 2, 258)
	holds(t, d, "w-slots", "\x01\x02\x03\x04\x05\x06"+strings.Repeat("\x00", 6)+"\x00\x00\x00\x00\x01\x02"+strings.Repeat("\x00", 72)+"\xff\xfe\xfd\xfc\xfb\xfa")
}

// TestWhatStandsInTheFile: it is told, whoever wrote it, and nothing but that.
func TestWhatStandsInTheFile(t *testing.T) {
	d, w := begun(t, 9)
	m := some()
	m[4], m[15] = greatest, 1<<47
	if e := d.Write("w-slots", 0, bytesOf(m)+"behind"); e != api.OK {
		t.Fatal(e)
	}
	tells(t, w, m, 9)
	set(t, w, 15, 5)
	m[15] = 5
	tells(t, w, m, 9)
	holds(t, d, "w-slots", bytesOf(m)+"behind")
}

// TestSlotsThatThereAreNot: also where the file has bytes, and where six times a slot is no int any more, and would be less than 96.
func TestSlotsThatThereAreNot(t *testing.T) {
	d, w := begun(t, 0)
	m := some()
	if e := d.Write("w-slots", 0, bytesOf(m)+"behind"); e != api.OK {
		t.Fatal(e)
	}
	d.Fuse(0)
	for range 2 {
		for _, slot := range []int{math.MinInt, math.MinInt + 1, -16, -1, 16, 17, 32, 256, 1 << 32, math.MaxInt, 3074457345618258603, 6148914691236517206} {
			if n, e := w.Head(slot); n != 0 || e != api.ErrRange {
				t.Errorf("Head of %d: %d, %d", slot, n, e)
			}
			for _, n := range []int{0, 5, greatest, -1, greatest + 1} {
				if e := w.Set(slot, n); e != api.ErrRange {
					t.Errorf("Set of %d, %d: %d", slot, n, e)
				}
			}
		}
		if d.Down() {
			break
		}
		holds(t, d, "w-slots", bytesOf(m)+"behind")
		if d.Sync() != api.ErrDown { // the slot comes ahead of what the disk tells
			t.Fatal("there is no fuse any more")
		}
	}
}

func TestNumbersThatMayNotBe(t *testing.T) {
	d, w := begun(t, 0)
	m := some()
	setAll(t, w, m)
	d.Fuse(0)
	for range 2 {
		for slot := range m {
			for _, n := range []int{math.MinInt, -greatest, -256, -1, greatest + 1, greatest + 6, 1 << 56, 1 << 62, math.MaxInt} {
				if e := w.Set(slot, n); e != api.ErrArg {
					t.Errorf("Set of %d, %d: %d", slot, n, e)
				}
			}
		}
		if d.Down() {
			break
		}
		is(t, d, w, m, 0)
		if d.Sync() != api.ErrDown { // the number comes ahead of what the disk tells
			t.Fatal("there is no fuse any more")
		}
	}
}

// TestTurn: second by second, up to now, and not beyond.
func TestTurn(t *testing.T) {
	for _, c := range []struct{ hand, now int }{{0, 0}, {0, 1}, {0, 100}, {5, 4}, {5, 5}, {5, 6}, {5, 40}, {15, 16}, {14, 33}, {7, -1}, {7, 0}, {0, -1}, {0, math.MinInt}, {9, math.MinInt}, {top, 3}, {top, top}, {top - 3, top}, {top - 1, top + 2}, {top, top + 20}} {
		d, w := begun(t, c.hand)
		m := some()
		setAll(t, w, m)
		d.Fuse(0) // it is no call of the disk
		for want := c.hand + 1; want <= c.now; want++ {
			if n, ok := w.Turn(c.now); n != want || !ok {
				t.Fatalf("Turn from %d to %d: %d, %t, not %d", c.hand, c.now, n, ok, want)
			}
			if w.Hand() != want {
				t.Fatalf("Hand: %d, not %d", w.Hand(), want)
			}
		}
		for _, now := range []int{c.now, c.now, math.MinInt, -1, 0} {
			if n, ok := w.Turn(now); n != 0 || ok {
				t.Errorf("Turn from %d to %d: %d, %t", max(c.hand, c.now), now, n, ok)
			}
		}
		is(t, d, w, m, max(c.hand, c.now))
	}
}

// TestTurnToATimeThatChanges: each goes on by one second, however far now lies.
func TestTurnToATimeThatChanges(t *testing.T) {
	_, w := begun(t, 5)
	for _, c := range []struct {
		now, want int
		ok        bool
	}{{math.MaxInt, 6, true}, {7, 7, true}, {7, 0, false}, {6, 0, false}, {9, 8, true}, {8, 0, false}, {100, 9, true}, {10, 10, true}, {math.MaxInt, 11, true}, {10, 0, false}} {
		if n, ok := w.Turn(c.now); n != c.want || ok != c.ok {
			t.Errorf("Turn to %d: %d, %t, not %d, %t", c.now, n, ok, c.want, c.ok)
		}
	}
	if w.Hand() != 11 {
		t.Errorf("Hand: %d", w.Hand())
	}
}

func TestAhead(t *testing.T) {
	for _, c := range []struct{ hand, now, want int }{
		{5, 5, 0}, {5, 4, 0}, {5, 6, 1}, {5, 7, 2}, {5, 21, 16}, {5, 0, 0}, {5, -1, 0}, {5, -6, 0}, {0, 0, 0}, {0, 1, 1}, {0, -1, 0}, {0, top, top}, {top, top, 0}, {top, top + 1, 1}, {top, 0, 0}, {1, top, top - 1},
		{0, math.MaxInt, math.MaxInt}, {5, math.MaxInt, math.MaxInt - 5}, {top, math.MaxInt, math.MaxInt - top}, {0, math.MinInt, 0}, {1, math.MinInt, 0}, {top, math.MinInt, 0}, {top, math.MinInt + top, 0},
	} {
		d, w := begun(t, c.hand)
		d.Fuse(0)
		for range 2 {
			if n := w.Ahead(c.now); n != c.want {
				t.Errorf("Ahead of %d, at %d: %d, not %d", c.now, c.hand, n, c.want)
			}
		}
		is(t, d, w, marks{}, c.hand)
	}
}

// TestAheadFallsAsTheHandTurns: by one with each turn.
func TestAheadFallsAsTheHandTurns(t *testing.T) {
	_, w := begun(t, 990)
	for left := 40; left >= 0; left-- {
		if n := w.Ahead(1030); n != left {
			t.Fatalf("Ahead: %d, not %d", n, left)
		}
		if _, ok := w.Turn(1030); ok != (left > 0) {
			t.Fatalf("Turn: %t, with %d left", ok, left)
		}
	}
}

// TestTheHandIsNotKept: a wheel that is made anew has the hand that is handed in, and empty slots.
func TestTheHandIsNotKept(t *testing.T) {
	d, w := begun(t, 5)
	setAll(t, w, some())
	for range 4 {
		w.Turn(9)
	}
	is(t, d, w, some(), 9)
	for _, hand := range []int{0, 9, 4, top} {
		w = fresh(t, d, hand)
		is(t, d, w, marks{}, hand)
		setAll(t, w, some())
	}
}

// TestTwoWheels: each has a hand of its own, and a disk.
func TestTwoWheels(t *testing.T) {
	d, w := begun(t, 5)
	e, x := begun(t, 80)
	set(t, w, 3, 7)
	x.Turn(90)
	set(t, x, 3, 8)
	w.Turn(9)
	is(t, d, w, marks{3: 7}, 6)
	is(t, e, x, marks{3: 8}, 81)
}

func TestNewDeletesWhatThereIs(t *testing.T) {
	others := []string{"w", "z", "W-slots", "1", "aw-", "2", "", "3", "x-slots", "4", "groups", "5"}
	d := with(t, 1000, append([]string{"w-", "x", "w-slots", strings.Repeat("\x01", 120), "w-marks", strings.Repeat("\x02", 40), "w-slots2", "y", "w-\xff", ""}, others...)...)
	if d.Write("w-slots", 1, "waits") != api.OK || d.Write("w", 1, "waits") != api.OK {
		t.Fatal("Write")
	}
	others[1] = "zwaits"
	d.Fuse(3) // of one call, and the file, and the noughts
	w := fresh(t, d, 4)
	d.Fuse(-1)
	holds(t, d, append(others, "w-slots", bytesOf(marks{}))...)
	tells(t, w, marks{}, 4)
	setAll(t, w, some())
	holds(t, d, append(others, "w-slots", bytesOf(some()))...)
	w = fresh(t, d, 6)
	holds(t, d, append(others, "w-slots", bytesOf(marks{}))...)
	tells(t, w, marks{}, 6)
}

// TestCallsOfNew: where there are no files of a wheel there is nothing to delete.
func TestCallsOfNew(t *testing.T) {
	for _, c := range []struct {
		calls int
		l     []string
	}{{2, nil}, {2, []string{"w", "y", "x-slots", "z"}}, {3, []string{"w-", ""}}, {3, []string{"w-a", "b", "w-c", "d", "w-slots", "e"}}} {
		d := with(t, 1000, c.l...)
		d.Fuse(c.calls)
		fresh(t, d, 0)
		if d.Sync() != api.ErrDown {
			t.Errorf("of %q: there were fewer calls than %d", c.l, c.calls)
		}
	}
}

// TestWhatIsAnsweredIsNobodyElses: neither an answer that is written into, nor one that is added to, changes the wheel.
func TestWhatIsAnsweredIsNobodyElses(t *testing.T) {
	d, w := begun(t, 5)
	setAll(t, w, some())
	for range 2 {
		l, _ := w.Heads()
		clear(l)
		clear(append(l[:1], 1, 2, 3, 4))
		is(t, d, w, some(), 5)
	}
}

func TestNil(t *testing.T) {
	for _, hand := range []int{0, 5, top} {
		if w, e := wheel.New(nil, hand); w != nil || e != api.ErrArg {
			t.Errorf("New: %v, %d", w, e)
		}
	}
	var w *wheel.Wheel
	for _, n := range []int{0, 5, 15, 16, -1, math.MaxInt, math.MinInt} {
		if x, e := w.Head(n); x != 0 || e != api.ErrArg {
			t.Errorf("Head of %d: %d, %d", n, x, e)
		}
		if e := w.Set(n, n); e != api.ErrArg {
			t.Errorf("Set of %d: %d", n, e)
		}
		if x, ok := w.Turn(n); x != 0 || ok {
			t.Errorf("Turn to %d: %d, %t", n, x, ok)
		}
		if x := w.Ahead(n); x != 0 {
			t.Errorf("Ahead of %d: %d", n, x)
		}
	}
	if l, e := w.Heads(); len(l) != 0 || e != api.ErrArg {
		t.Errorf("Heads: %v, %d", l, e)
	}
	if w.Hand() != 0 {
		t.Errorf("Hand: %d", w.Hand())
	}
}

// TestWhatNewDidNotMake: such a wheel has no disk; nothing panics.
func TestWhatNewDidNotMake(t *testing.T) {
	w := &wheel.Wheel{}
	if n, e := w.Head(0); n != 0 || e != api.ErrArg {
		t.Errorf("Head: %d, %d", n, e)
	}
	if e := w.Set(0, 1); e != api.ErrArg {
		t.Errorf("Set: %d", e)
	}
	if l, e := w.Heads(); len(l) != 0 || e != api.ErrArg {
		t.Errorf("Heads: %v, %d", l, e)
	}
	if n, ok := w.Turn(2); n != 1 || !ok || w.Hand() != 1 || w.Ahead(2) != 1 {
		t.Errorf("Turn: %d, %t; Hand: %d; Ahead: %d", n, ok, w.Hand(), w.Ahead(2))
	}
}
