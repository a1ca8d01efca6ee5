package pend_test

import (
	"math"
	"math/rand"
	"slices"
	"testing"

	"reveille/api"
	"reveille/pend"
)

// plain is all that was noted, one behind the other, and all that it tells is worked out from that each time.
type plain []at

// note notes a record, and tells whether anything is another thing then.
func (p *plain) note(id int, m api.Msg) bool {
	if id < 0 {
		return false
	}
	old := p.states()
	now := append(slices.Clone(*p), at{id, m})
	*p = now
	return !slices.Equal(old, now.states())
}

// of is a record's state, and when it is due: its first note is sought, and behind that the first one that speaks of it.
func (p plain) of(id int) (state, due int) {
	first := slices.IndexFunc(p, func(x at) bool { return x.id == id && x.m.Kind == 2 })
	if first < 0 {
		return 0, 0
	}
	for _, x := range p[first:] {
		if x.m.Ref == id && x.m.Kind > 2 && x.m.Kind < 5 {
			return x.m.Kind - 1, 0
		}
	}
	return 1, p[first].m.Due
}

// numbers are those of all scheduled records, rising.
func (p plain) numbers() []int {
	var l []int
	for _, x := range p {
		if x.m.Kind == 2 {
			l = append(l, x.id)
		}
	}
	slices.Sort(l)
	return slices.Compact(l)
}

// states are all records, with their state and when they are due.
func (p plain) states() [][3]int {
	var l [][3]int
	for _, id := range p.numbers() {
		state, due := p.of(id)
		l = append(l, [3]int{id, state, due})
	}
	return l
}

// pending takes the least one of those that wait, as long as there are any.
func (p plain) pending() []int {
	var left, told []int
	for _, x := range p.states() {
		if x[1] == 1 {
			left = append(left, x[0])
		}
	}
	for len(left) > 0 {
		least := 0
		for i := range left { // their numbers rise, so the first one of a time has the least one
			_, due := p.of(left[i])
			if _, d := p.of(left[least]); due < d {
				least = i
			}
		}
		told = append(told, left[least])
		left = slices.Delete(left, least, least+1)
	}
	return told
}

// trim lets go what was noted as scheduled below a number.
func (p *plain) trim(begin int) {
	*p = slices.DeleteFunc(*p, func(x at) bool { return x.m.Kind == 2 && x.id < begin })
}

// script holds a set against a plain one.
type script struct {
	s    *pend.Set
	p    plain
	rest []byte // tells what happens next; of none that are left, noughts
}

func (c *script) next(n int) int {
	if len(c.rest) == 0 {
		return 0
	}
	b := c.rest[0]
	c.rest = c.rest[1:]
	return int(b) % n
}

// number is a small one, so that many are met again, or an edge.
func (c *script) number() int {
	if c.next(12) == 0 {
		return [...]int{-1, 0, math.MinInt, math.MaxInt, 1 << 40, 1<<40 + 1, -2, math.MaxInt - 1}[c.next(8)]
	}
	return c.next(24)
}

// record is one of any kind, most of them of those that change something.
func (c *script) record() api.Msg {
	kind := 2 + c.next(3)
	if c.next(10) == 0 {
		kind = kinds[c.next(len(kinds))]
	}
	return api.Msg{Kind: kind, Ref: c.number(), Due: c.number()}
}

func (c *script) step(t *testing.T) {
	t.Helper()
	if c.next(12) == 0 {
		begin := c.number() / (1 + c.next(3))
		c.s.Trim(begin)
		c.p.trim(begin)
		return
	}
	id, m := c.number(), c.record()
	if got, want := c.s.Note(id, m), c.p.note(id, m); got != want {
		t.Fatalf("Note of %d, %+v: %t, not %t", id, m, got, want)
	}
}

// alike fails, if one look tells another thing than that which it is held against.
func (c *script) alike(t *testing.T) {
	t.Helper()
	counts := [4]int{}
	for _, id := range append(c.p.numbers(), -1, 0, 1, 2, 3, 5, 8, 23, 24, math.MinInt, math.MaxInt, 1<<40) {
		state, due := c.p.of(id)
		if got, when := c.s.State(id), c.s.Due(id); got != state || when != due {
			t.Fatalf("the state of %d: %d, due at %d, not %d, %d", id, got, when, state, due)
		}
	}
	for _, x := range c.p.states() {
		counts[x[1]]++
	}
	if a, b, g := c.s.Counts(); [4]int{0, a, b, g} != counts {
		t.Fatalf("Counts: %d, %d, %d, not %v", a, b, g, counts[1:])
	}
	if l, want := c.s.Pending(), c.p.pending(); !slices.Equal(l, want) {
		t.Fatalf("Pending: %v, not %v", l, want)
	}
}

func play(t *testing.T, b []byte) {
	c := &script{s: pend.New(), rest: slices.Clone(b)}
	for len(c.rest) > 0 {
		c.step(t)
		c.alike(t)
	}
}

func TestAsThePlainSet(t *testing.T) {
	r := rand.New(rand.NewSource(17))
	for range 400 {
		b := make([]byte, 20+r.Intn(300))
		r.Read(b)
		play(t, b)
	}
}

// The same notes in another set are told the same, however often it is asked: nothing hangs on the order of a map.
func TestTheOrderIsTheSameEachTime(t *testing.T) {
	s, p := pend.New(), plain{}
	r := rand.New(rand.NewSource(18))
	for range 200 {
		id, m := r.Intn(2000), scheduled(r.Intn(9))
		s.Note(id, m)
		p.note(id, m)
	}
	want := p.pending()
	for range 20 {
		waiting(t, s, want...)
	}
}

func FuzzSet(f *testing.F) {
	f.Add([]byte{})
	r := rand.New(rand.NewSource(19))
	for range 20 {
		b := make([]byte, 200)
		r.Read(b)
		f.Add(b)
	}
	f.Fuzz(func(t *testing.T, b []byte) { play(t, b[:min(len(b), 500)]) })
}
