package tlog_test

import (
	"math"
	"math/rand"
	"slices"
	"testing"

	"reveille/api"
	"reveille/disk"
	"reveille/entry"
	"reveille/tlog"
)

// plain is a timer log as the chapter's words say it: a script, and a hand. To its disk it does what the words say is done, so that what that tells, and lets be, is told and let be.
type plain struct {
	d    *disk.Disk
	hand int
	script
}

// first is the first error of a list of calls; those behind it aren't made.
func first(l ...func() api.Errno) api.Errno {
	for _, call := range l {
		if e := call(); e != api.OK {
			return e
		}
	}
	return api.OK
}

func newPlain(d *disk.Disk, hand int) (*plain, api.Errno) {
	old := d.List("w-")
	room := d.Room()
	for _, f := range old {
		room += d.Len(f)
	}
	e := first(func() api.Errno {
		switch {
		case hand < 0 || hand > 1<<40:
			return api.ErrArg
		case d.Down():
			return api.ErrDown
		case room < 96:
			return api.ErrFull
		}
		return api.OK
	}, func() api.Errno {
		if len(old) == 0 {
			return api.OK
		}
		return d.Delete(old...)
	}, func() api.Errno { return d.Create("w-slots") }, func() api.Errno { return d.Write("w-slots", 0, string(make([]byte, 96))) }, func() api.Errno { return d.Create("w-marks") })
	if e != api.OK {
		return nil, e
	}
	return &plain{d: d, hand: hand}, api.OK
}

// copied is what is kept, to be changed.
func (p *plain) copied() script {
	s := script{all: slices.Clone(p.all)}
	for i, c := range p.chains {
		s.chains[i] = slices.Clone(c)
	}
	return s
}

// becomes lets what is kept become another one: what that has more of marks is written, and then its slot.
func (p *plain) becomes(s script, slot int) api.Errno {
	old, f := 20*len(p.all), s.files()
	e := first(func() api.Errno {
		if len(f[1]) == old {
			return api.OK
		}
		return p.d.Write("w-marks", old, f[1][old:])
	}, func() api.Errno { return p.d.Write("w-slots", 6*slot, f[3][6*slot:6*slot+6]) })
	if e == api.OK {
		p.script = s
	}
	return e
}

func (p *plain) putOne(due, at int) api.Errno {
	switch {
	case min(due, at) < 0 || max(due, at) > 1<<40:
		return api.ErrArg
	case due <= p.hand:
		return api.ErrLate
	case p.d.Down():
		return api.ErrDown
	}
	s := p.copied()
	s.put(due, at, 1)
	return p.becomes(s, due%16)
}

func (p *plain) chainOf(slot int) ([]entry.Mark, api.Errno) {
	switch {
	case slot < 0 || slot > 15:
		return nil, api.ErrRange
	case p.d.Down():
		return nil, api.ErrDown
	}
	return p.chain(slot), api.OK
}

func (p *plain) takeAll(second int) ([]entry.Mark, api.Errno) {
	switch {
	case second < 0:
		return nil, api.ErrArg
	case p.d.Down():
		return nil, api.ErrDown
	case len(p.chains[second%16]) == 0:
		return nil, api.OK
	}
	s := p.copied()
	told := s.take(second)
	if e := p.becomes(s, second%16); e != api.OK {
		return nil, e
	}
	return told, api.OK
}

func (p *plain) nextOne(now int) ([]entry.Mark, bool, api.Errno) {
	if p.hand >= now {
		return nil, false, api.OK
	}
	l, e := p.takeAll(p.hand + 1)
	if e != api.OK {
		return nil, false, e
	}
	p.hand++
	return l, true, api.OK
}

func (p *plain) waits() (int, api.Errno) {
	if p.d.Down() {
		return 0, api.ErrDown
	}
	n := 0
	for _, c := range p.chains {
		n += len(c)
	}
	return n, api.OK
}

// twins are a timer log, and the plain one that it is held against, on a disk of its own.
type twins struct {
	d, other *disk.Disk
	l        *tlog.Log
	p        *plain
	rest     []byte // tells what happens next; of none that are left, noughts
}

func (w *twins) next(n int) int {
	if len(w.rest) == 0 {
		return 0
	}
	b := w.rest[0]
	w.rest = w.rest[1:]
	return int(b) % n
}

// begin makes both anew; where their disk is down, a crash comes first, and where it has no room, another one.
func (w *twins) begin(t *testing.T) {
	t.Helper()
	for {
		hand := w.time()
		l, e := tlog.New(w.d, hand)
		p, want := newPlain(w.other, hand)
		if e != want || (l == nil) != (p == nil) {
			t.Fatalf("New at %d: %d, not %d", hand, e, want)
		}
		w.same(t)
		switch e {
		case api.OK:
			w.l, w.p = l, p
			return
		case api.ErrDown:
			w.crash(false)
		case api.ErrFull:
			w.d, w.other = disk.New(300), disk.New(300)
		}
	}
}

// crash loses some of what waits, or nothing.
func (w *twins) crash(nothing bool) {
	p := disk.Plan{}
	if nothing {
		p = all(w.d)
	} else {
		p.Lack = w.next(25) - 2
		for range w.next(w.d.Waits() + 2) {
			p.Keep = append(p.Keep, w.next(5) > 0)
		}
	}
	w.d.Crash(p)
	w.other.Crash(p)
}

// both does one thing to both disks.
func (w *twins) both(t *testing.T, do func(d *disk.Disk) api.Errno) {
	t.Helper()
	if e, want := do(w.d), do(w.other); e != want {
		t.Fatalf("%d, not %d", e, want)
	}
}

// time is one about the hand, or an edge.
func (w *twins) time() int {
	hand := 0
	if w.l != nil {
		hand = w.l.Hand()
	}
	switch w.next(20) {
	case 0:
		return [...]int{0, -1, 1 << 40, 1<<40 + 1, math.MinInt, math.MaxInt, 1<<40 - 1, 1<<40 - 16}[w.next(8)]
	case 1:
		return w.next(256) << w.next(33)
	}
	return hand + w.next(60) - 4
}

func (w *twins) puts(t *testing.T) {
	t.Helper()
	for range 1 + w.next(6) {
		due, at := w.time(), w.next(256)<<w.next(34)
		if w.next(20) == 0 {
			at = w.time()
		}
		if e, want := w.l.Put(due, at), w.p.putOne(due, at); e != want {
			t.Fatalf("Put of %d, %d: %d, not %d", due, at, e, want)
		}
	}
}

func (w *twins) nexts(t *testing.T) {
	t.Helper()
	now := w.time()
	for range 1 + w.next(24) {
		l, ok, e := w.l.Next(now)
		if want, on, wrong := w.p.nextOne(now); !slices.Equal(l, want) || ok != on || e != wrong {
			t.Fatalf("Next to %d: %v, %t, %d, not %v, %t, %d", now, l, ok, e, want, on, wrong)
		}
	}
}

func (w *twins) takes(t *testing.T) {
	t.Helper()
	second := w.time()
	l, e := w.l.Take(second)
	if want, wrong := w.p.takeAll(second); !slices.Equal(l, want) || e != wrong {
		t.Fatalf("Take of %d: %v, %d, not %v, %d", second, l, e, want, wrong)
	}
}

// step does one thing with both; what the two told must be one.
func (w *twins) step(t *testing.T) {
	t.Helper()
	switch w.next(20) {
	default:
		w.puts(t)
	case 7, 8, 9, 10, 11:
		w.nexts(t)
	case 12, 13:
		w.takes(t)
	case 14, 15:
		n := w.next(12)
		w.both(t, func(d *disk.Disk) api.Errno { d.Fuse(n); return api.OK })
	case 16:
		w.crash(false)
		w.begin(t)
	case 17:
		if w.next(3) == 0 {
			w.begin(t)
		}
	case 18:
		f := [...]string{"w-", "w-other", "y", "w"}[w.next(4)]
		w.both(t, func(d *disk.Disk) api.Errno { return d.Create(f) })
	case 19:
		f, n := [...]string{"w-", "w-other", "y", "w"}[w.next(4)], w.next(100)
		w.both(t, func(d *disk.Disk) api.Errno { return d.Write(f, 0, string(make([]byte, n))) })
	}
	if w.d.Down() {
		w.alike(t) // what is still told then
		switch w.next(3) {
		case 1:
			w.crash(true)
		case 2:
			w.crash(false)
			w.begin(t)
		}
	}
}

// same fails, if the disks aren't.
func (w *twins) same(t *testing.T) {
	t.Helper()
	if !w.d.Same(w.other) || w.d.Waits() != w.other.Waits() || w.d.Down() != w.other.Down() {
		t.Fatalf("the files %q, %d wait, down %t, not %q, %d, %t", contents(w.d), w.d.Waits(), w.d.Down(), contents(w.other), w.other.Waits(), w.other.Down())
	}
}

// alike fails, if one look tells another thing than that which it is held against.
func (w *twins) alike(t *testing.T) {
	t.Helper()
	w.same(t)
	for slot := -1; slot <= slots; slot++ {
		c, e := w.l.Chain(slot)
		if want, wrong := w.p.chainOf(slot); !slices.Equal(c, want) || e != wrong {
			t.Fatalf("Chain of %d: %v, %d, not %v, %d", slot, c, e, want, wrong)
		}
	}
	n, e := w.l.Waits()
	if want, wrong := w.p.waits(); n != want || e != wrong {
		t.Fatalf("Waits: %d, %d, not %d, %d", n, e, want, wrong)
	}
	if w.l.Len() != len(w.p.all) || w.l.Hand() != w.p.hand {
		t.Fatalf("Len: %d; Hand: %d, not %d, %d", w.l.Len(), w.l.Hand(), len(w.p.all), w.p.hand)
	}
}

func play(t *testing.T, b []byte) {
	w := &twins{rest: slices.Clone(b)}
	capacity := 10 * w.next(256)
	w.d, w.other = disk.New(capacity), disk.New(capacity)
	w.begin(t)
	for len(w.rest) > 0 {
		w.step(t)
		w.alike(t)
	}
}

func TestAsThePlainLog(t *testing.T) {
	r := rand.New(rand.NewSource(16))
	for range 1500 {
		b := make([]byte, 20+r.Intn(800))
		r.Read(b)
		play(t, b)
	}
}

func FuzzLog(f *testing.F) {
	f.Add([]byte{})
	r := rand.New(rand.NewSource(17))
	for range 20 {
		b := make([]byte, 500)
		r.Read(b)
		f.Add(b)
	}
	f.Fuzz(func(t *testing.T, b []byte) { play(t, b[:min(len(b), 1200)]) })
}
