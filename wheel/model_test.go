package wheel_test

import (
	"math"
	"math/big"
	"math/rand"
	"slices"
	"testing"

	"reveille/api"
	"reveille/disk"
	"reveille/wheel"
)

// plain is a wheel as the chapter's words say it: its hand is a number of any size. To its disk it does what the words say is done, so that what that tells, and lets be, is told and let be.
type plain struct {
	d    *disk.Disk
	hand *big.Int
}

// first is the first error of a list of calls; those behind it aren't made.
func first(l ...func() api.Errno) api.Errno {
	for _, call := range l {
		if e := call(); e != api.OK {
			return e
		}
	}
	return api.OK
}

func newPlain(d *disk.Disk, hand int) (*plain, api.Errno) {
	old := d.List("w-")
	room := d.Room()
	for _, f := range old {
		room += d.Len(f)
	}
	e := first(func() api.Errno {
		switch {
		case hand < 0 || hand > 1<<40:
			return api.ErrArg
		case d.Down():
			return api.ErrDown
		case room < 96:
			return api.ErrFull
		}
		return api.OK
	}, func() api.Errno {
		if len(old) == 0 {
			return api.OK
		}
		return d.Delete(old...)
	}, func() api.Errno { return d.Create("w-slots") }, func() api.Errno { return d.Write("w-slots", 0, string(make([]byte, 96))) })
	if e != api.OK {
		return nil, e
	}
	return &plain{d, big.NewInt(int64(hand))}, api.OK
}

// heads is the numbers of the slots from one on, so many; of a single one, or of all.
func (p *plain) heads(slot, n int) ([]int, api.Errno) {
	if slot < 0 || slot > 15 {
		return nil, api.ErrRange
	}
	s, e := p.d.Read("w-slots", 6*slot, 6*n)
	if e != api.OK {
		return nil, e
	}
	var l []int
	for piece := range slices.Chunk([]byte(s), 6) {
		l = append(l, int(new(big.Int).SetBytes(piece).Int64()))
	}
	return l, api.OK
}

func (p *plain) set(slot, n int) api.Errno {
	switch {
	case slot < 0 || slot > 15:
		return api.ErrRange
	case n < 0 || n >= 1<<48:
		return api.ErrArg
	}
	return p.d.Write("w-slots", 6*slot, string(big.NewInt(int64(n)).FillBytes(make([]byte, 6))))
}

// ahead is how many seconds lie between.
func (p *plain) ahead(now int) int {
	n := big.NewInt(int64(now))
	n.Sub(n, p.hand)
	if n.Sign() < 0 {
		return 0
	}
	return int(n.Int64())
}

func (p *plain) turn(now int) (int, bool) {
	if p.ahead(now) == 0 {
		return 0, false
	}
	p.hand.Add(p.hand, big.NewInt(1))
	return int(p.hand.Int64()), true
}

// twins are a wheel, and the plain one that it is held against, on a disk of its own.
type twins struct {
	d, other *disk.Disk
	w        *wheel.Wheel
	p        *plain
	rest     []byte // tells what happens next; of none that are left, noughts
}

func (w *twins) next(n int) int {
	if len(w.rest) == 0 {
		return 0
	}
	b := w.rest[0]
	w.rest = w.rest[1:]
	return int(b) % n
}

// begin makes both anew; where their disk is down, a crash comes first, and where it has no room, another one.
func (w *twins) begin(t *testing.T) {
	t.Helper()
	for {
		hand := w.time()
		x, e := wheel.New(w.d, hand)
		p, want := newPlain(w.other, hand)
		if e != want || (x == nil) != (p == nil) {
			t.Fatalf("New at %d: %d, not %d", hand, e, want)
		}
		w.same(t)
		switch e {
		case api.OK:
			w.w, w.p = x, p
			return
		case api.ErrDown:
			w.crash()
		case api.ErrFull:
			w.d, w.other = disk.New(96), disk.New(96)
		}
	}
}

func (w *twins) crash() {
	p := disk.Plan{Lack: w.next(9) - 1}
	for range w.next(w.d.Waits() + 2) {
		p.Keep = append(p.Keep, w.next(5) > 0)
	}
	w.d.Crash(p)
	w.other.Crash(p)
}

// both does one thing to both disks.
func (w *twins) both(t *testing.T, do func(d *disk.Disk) api.Errno) {
	t.Helper()
	if e, want := do(w.d), do(w.other); e != want {
		t.Fatalf("%d, not %d", e, want)
	}
}

// time is one about the hand, or an edge.
func (w *twins) time() int {
	hand := 0
	if w.w != nil {
		hand = w.w.Hand()
	}
	switch w.next(12) {
	case 0:
		return [...]int{0, -1, 1 << 40, 1<<40 + 1, math.MinInt, math.MaxInt, 1<<40 - 1, 16}[w.next(8)]
	case 1:
		return w.next(256) << w.next(33)
	}
	return hand + w.next(12) - 3
}

func (w *twins) slot() int {
	if w.next(20) == 0 {
		return [...]int{-1, 16, math.MinInt, math.MaxInt, 17, 255}[w.next(6)]
	}
	return w.next(16)
}

func (w *twins) number() int {
	if w.next(12) == 0 {
		return [...]int{-1, 1<<48 - 1, 1 << 48, math.MinInt, math.MaxInt, 0}[w.next(6)]
	}
	return w.next(256)<<w.next(41) + w.next(256)
}

// step does one thing with both; what the two told must be one.
func (w *twins) step(t *testing.T) {
	t.Helper()
	switch w.next(20) {
	default:
		for range 1 + w.next(6) {
			slot, n := w.slot(), w.number()
			if e, want := w.w.Set(slot, n), w.p.set(slot, n); e != want {
				t.Fatalf("Set of %d, %d: %d, not %d", slot, n, e, want)
			}
		}
	case 7, 8, 9, 10, 11, 12:
		now := w.time()
		for range 1 + w.next(12) {
			n, ok := w.w.Turn(now)
			if m, want := w.p.turn(now); n != m || ok != want {
				t.Fatalf("Turn to %d: %d, %t, not %d, %t", now, n, ok, m, want)
			}
		}
	case 13, 14:
		n := w.next(12)
		w.both(t, func(d *disk.Disk) api.Errno { d.Fuse(n); return api.OK })
	case 15:
		w.crash()
	case 16:
		w.begin(t)
	case 17:
		f := [...]string{"w-", "w-marks", "y", "w"}[w.next(4)]
		w.both(t, func(d *disk.Disk) api.Errno { return d.Create(f) })
	case 18:
		f, n := [...]string{"w-", "w-marks", "y", "w", "w-slots"}[w.next(5)], w.next(100)
		w.both(t, func(d *disk.Disk) api.Errno { return d.Write(f, 0, string(make([]byte, n))) })
	case 19:
		n := w.next(100)
		w.both(t, func(d *disk.Disk) api.Errno { return d.Cut("w-slots", n) })
	}
	if w.d.Down() {
		w.alike(t) // what is still told then
		if w.next(3) > 0 {
			w.crash()
		}
	}
}

// same fails, if the disks aren't.
func (w *twins) same(t *testing.T) {
	t.Helper()
	if !w.d.Same(w.other) || w.d.Waits() != w.other.Waits() || w.d.Down() != w.other.Down() {
		t.Fatalf("the files %q, %d wait, down %t, not %q, %d, %t", w.d.List(""), w.d.Waits(), w.d.Down(), w.other.List(""), w.other.Waits(), w.other.Down())
	}
}

// alike fails, if one look tells another thing than that which it is held against.
func (w *twins) alike(t *testing.T) {
	t.Helper()
	w.same(t)
	for slot := -1; slot <= slots; slot++ {
		n, e := w.w.Head(slot)
		want, wrong := w.p.heads(slot, 1)
		if want == nil {
			want = []int{0}
		}
		if n != want[0] || e != wrong {
			t.Fatalf("Head of %d: %d, %d, not %d, %d", slot, n, e, want[0], wrong)
		}
	}
	l, e := w.w.Heads()
	if want, wrong := w.p.heads(0, slots); !slices.Equal(l, want) || e != wrong {
		t.Fatalf("Heads: %v, %d, not %v, %d", l, e, want, wrong)
	}
	if n, want := w.w.Hand(), int(w.p.hand.Int64()); n != want {
		t.Fatalf("Hand: %d, not %d", n, want)
	}
	for range 3 {
		now := w.time()
		if n, want := w.w.Ahead(now), w.p.ahead(now); n != want {
			t.Fatalf("Ahead of %d: %d, not %d", now, n, want)
		}
	}
}

func play(t *testing.T, b []byte) {
	w := &twins{rest: slices.Clone(b)}
	capacity := 2 * w.next(256)
	w.d, w.other = disk.New(capacity), disk.New(capacity)
	w.begin(t)
	for len(w.rest) > 0 {
		w.step(t)
		w.alike(t)
	}
}

func TestAsThePlainWheel(t *testing.T) {
	r := rand.New(rand.NewSource(15))
	for range 2000 {
		b := make([]byte, 20+r.Intn(800))
		r.Read(b)
		play(t, b)
	}
}

func FuzzWheel(f *testing.F) {
	f.Add([]byte{})
	r := rand.New(rand.NewSource(16))
	for range 20 {
		b := make([]byte, 500)
		r.Read(b)
		f.Add(b)
	}
	f.Fuzz(func(t *testing.T, b []byte) { play(t, b[:min(len(b), 1200)]) })
}
