package cq_test

import (
	"cmp"
	"math"
	"math/rand"
	"regexp"
	"slices"
	"testing"

	"reveille/api"
	"reveille/cq"
	"reveille/disk"
	"reveille/entry"
)

// plain is queues as the chapter's words say them: lists of entries. To its disk it does what the words say is done, so that what that tells, and lets be, is told and let be.
type plain struct {
	d *disk.Disk
	l []*list // in All's order
}

// list is a queue that was named; all entries that ever were are in it.
type list struct {
	topic       string
	queue, base int
	all         []entry.Place
	gone        int // so many of them aren't there any more
	dropped     int // and so many segments
}

var topics = regexp.MustCompile(`^([a-z0-9-]{1,16}|%(retry|dead)%[a-z0-9-]{1,8})$`)

func newPlain(d *disk.Disk) (*plain, api.Errno) {
	if l := d.List("q-"); len(l) > 0 {
		if e := d.Delete(l...); e != api.OK {
			return nil, e
		}
	}
	return &plain{d: d}, api.OK
}

func (p *plain) find(topic string, queue int) *list {
	for _, x := range p.l {
		if x.topic == topic && x.queue == queue {
			return x
		}
	}
	return &list{topic: topic, queue: queue}
}

func (p *plain) name(x *list) {
	if !slices.Contains(p.l, x) {
		p.l = append(p.l, x)
		slices.SortFunc(p.l, func(a, b *list) int { return cmp.Or(cmp.Compare(a.topic, b.topic), a.queue-b.queue) })
	}
}

func wrong(topic string, queue int) api.Errno {
	if !topics.MatchString(topic) {
		return api.ErrName
	}
	if !slices.Contains([]int{0, 1, 2}, queue) {
		return api.ErrQueue
	}
	return api.OK
}

func (p *plain) base(topic string, queue, at int) api.Errno {
	if e := wrong(topic, queue); e != api.OK {
		return e
	}
	if at < 0 || at > 1<<40 {
		return api.ErrRange
	}
	x := p.find(topic, queue)
	if slices.Contains(p.l, x) {
		return api.ErrThere
	}
	x.base = at
	p.name(x)
	return api.OK
}

func (p *plain) add(topic string, queue int, v entry.Place) (int, api.Errno) {
	if e := wrong(topic, queue); e != api.OK {
		return 0, e
	}
	if min(v.At, v.Long, v.Hash, v.Born) < 0 || v.At >= 1<<48 || v.Long >= 1<<16 || v.Hash >= 1<<40 || v.Born >= 1<<56 {
		return 0, api.ErrArg
	}
	x := p.find(topic, queue)
	n := len(x.all)
	f := file(topic, queue, n/perSegment*perSegment)
	if n%perSegment == 0 {
		if p.d.Down() {
			return 0, api.ErrDown
		}
		if p.d.Room() < entry.Size {
			return 0, api.ErrFull
		}
		if e := p.d.Create(f); e != api.OK {
			return 0, e
		}
	}
	if e := p.d.Write(f, n%perSegment*entry.Size, bytes(v)); e != api.OK {
		return 0, e
	}
	x.all = append(x.all, v)
	p.name(x)
	return x.base + n, api.OK
}

func (p *plain) at(topic string, queue, at int) (entry.Place, api.Errno) {
	x := p.find(topic, queue)
	if at < 0 || at >= x.base+len(x.all) {
		return entry.Place{}, api.ErrRange
	}
	if at < x.base+x.gone {
		return entry.Place{}, api.ErrTrim
	}
	if p.d.Down() {
		return entry.Place{}, api.ErrDown
	}
	return x.all[at-x.base], api.OK
}

func (p *plain) seek(topic string, queue, born int) int {
	x := p.find(topic, queue)
	for i, v := range x.all {
		if i >= x.gone && v.Born >= born && !p.d.Down() {
			return x.base + i
		}
	}
	return x.base + len(x.all)
}

func (p *plain) trim(begin int) api.Errno {
	for _, x := range p.l {
		if p.d.Down() && x.gone < len(x.all) {
			return api.ErrDown
		}
	}
	left := make([]list, len(p.l)) // what will be left
	for i, x := range p.l {
		left[i] = *x
		for left[i].gone < len(x.all) && x.all[left[i].gone].At < begin {
			left[i].gone++
		}
	}
	for i := range left {
		x := &left[i]
		for (x.dropped+1)*perSegment <= x.gone && (x.dropped+1)*perSegment < len(x.all) {
			if e := p.d.Delete(file(x.topic, x.queue, x.dropped*perSegment)); e != api.OK {
				return e
			}
			x.dropped++
		}
	}
	for i, x := range p.l {
		*x = left[i]
	}
	return api.OK
}

func (p *plain) all() []cq.Queue {
	var l []cq.Queue
	for _, x := range p.l {
		l = append(l, cq.Queue{Topic: x.topic, Queue: x.queue, Least: x.base + x.gone, Next: x.base + len(x.all)})
	}
	return l
}

// pair is queues, and the plain ones that they are held against, on another disk.
type pair struct {
	d, twin *disk.Disk
	q       *cq.Queues
	p       *plain
	places  int    // where the next record is to lie, about
	rest    []byte // tells what is to be done next; of none that are left, noughts
}

func (x *pair) next(n int) int {
	if len(x.rest) == 0 {
		return 0
	}
	b := x.rest[0]
	x.rest = x.rest[1:]
	return int(b) % n
}

func newPair(t *testing.T, b []byte) *pair {
	x := &pair{rest: b}
	capacity := 100 + 10*x.next(256)
	x.d, x.twin = disk.New(capacity), disk.New(capacity)
	x.open(t)
	return x
}

// open makes both anew, the disk being up or down; if it was down, there was a crash.
func (x *pair) open(t *testing.T) {
	t.Helper()
	for {
		q, e := cq.New(x.d)
		p, want := newPlain(x.twin)
		if e != want || (q == nil) != (p == nil) {
			t.Fatalf("New: %d, not %d", e, want)
		}
		if q != nil {
			x.q, x.p = q, p
			return
		}
		x.crash()
	}
}

func (x *pair) crash() {
	plan := disk.Plan{Lack: x.next(30) - 4}
	for range x.next(x.d.Waits() + 2) {
		plan.Keep = append(plan.Keep, x.next(5) > 0)
	}
	x.d.Crash(plan)
	x.twin.Crash(plan)
}

// queue is a topic and a number, mostly one of a few; now and then one that may not be.
func (x *pair) queue() (string, int) {
	topic := [...]string{"a", "a", "a", "a-", "%retry%g", "b", "b", "A", "%dead%g"}[x.next(9)]
	return topic, [...]int{0, 0, 0, 0, 1, 2, 2, 3, -1}[x.next(9)]
}

// place is an entry, whose record mostly lies behind those ahead of it.
func (x *pair) place() entry.Place {
	x.places += x.next(60) - 8
	v := entry.Place{At: max(x.places, 0), Long: 3 + x.next(250), Hash: x.next(256) << 30, Born: max(x.places/4+x.next(8)-4, 0)}
	switch x.next(40) {
	case 0:
		v.Born = 1<<56 - x.next(2)
	case 1:
		v.Long = 1<<16 - x.next(2)
	case 2:
		v.Hash -= 1 << 30
	case 3:
		v.At = 1<<48 - x.next(2)
	}
	return v
}

// step does one thing with both; what the two told must be one.
func (x *pair) step(t *testing.T) {
	t.Helper()
	topic, queue := x.queue()
	switch x.next(20) {
	default:
		for range 1 + x.next(9) {
			v := x.place()
			at, e := x.q.Add(topic, queue, v)
			if want, wrong := x.p.add(topic, queue, v); at != want || e != wrong {
				t.Fatalf("Add of %+v to %q, %d: %d, %d, not %d, %d", v, topic, queue, at, e, want, wrong)
			}
		}
	case 13:
		at := [...]int{0, 1, 9, 10, 27, 1 << 40, 1<<40 + 1, -1}[x.next(8)]
		if e, want := x.q.Base(topic, queue, at), x.p.base(topic, queue, at); e != want {
			t.Fatalf("Base of %q, %d: %d, not %d", topic, queue, e, want)
		}
	case 14, 15, 16:
		begin := x.places - 20*x.next(60)
		if x.next(12) == 0 {
			begin = math.MaxInt
		}
		if e, want := x.q.Trim(begin), x.p.trim(begin); e != want {
			t.Fatalf("Trim to %d: %d, not %d", begin, e, want)
		}
	case 17:
		n := x.next(16)
		x.d.Fuse(n)
		x.twin.Fuse(n)
	case 18:
		if x.next(4) == 0 {
			x.crash()
			x.open(t)
		}
	case 19:
		if x.next(4) == 0 {
			x.open(t)
		}
	}
	if x.d.Down() {
		x.alike(t) // what is still told then
		if x.next(3) > 0 {
			x.crash()
			x.open(t)
		}
	}
}

// alike fails, if one look tells another thing than that which it is held against.
func (x *pair) alike(t *testing.T) {
	t.Helper()
	if !x.d.Same(x.twin) || x.d.Waits() != x.twin.Waits() || x.d.Down() != x.twin.Down() {
		t.Fatalf("the files %q, %d wait, down %t, not %q, %d, %t", x.d.List(""), x.d.Waits(), x.d.Down(), x.twin.List(""), x.twin.Waits(), x.twin.Down())
	}
	if l, want := x.q.All(), x.p.all(); !slices.Equal(l, want) {
		t.Fatalf("All: %v, not %v", l, want)
	}
	topic, queue := x.queue()
	for _, y := range append(x.p.all(), cq.Queue{Topic: topic, Queue: queue}) {
		v := x.p.find(y.Topic, y.Queue)
		if least, next := x.q.Least(y.Topic, y.Queue), x.q.Next(y.Topic, y.Queue); least != v.base+v.gone || next != v.base+len(v.all) {
			t.Fatalf("%q, %d: from %d to %d, not from %d to %d", y.Topic, y.Queue, least, next, v.base+v.gone, v.base+len(v.all))
		}
		l := []int{math.MinInt, -1, 0, y.Least - 1, y.Next, y.Next + 1, math.MaxInt}
		for at := y.Least; at < y.Next; at++ {
			l = append(l, at)
		}
		for _, at := range l {
			got, e := x.q.At(y.Topic, y.Queue, at)
			if want, wrong := x.p.at(y.Topic, y.Queue, at); got != want || e != wrong {
				t.Fatalf("%q, %d at %d: %+v, %d, not %+v, %d", y.Topic, y.Queue, at, got, e, want, wrong)
			}
		}
		for _, born := range []int{math.MinInt, 0, x.places / 4, x.places/4 - x.next(256), x.next(256), 1<<56 - 1, math.MaxInt} {
			if at, want := x.q.Seek(y.Topic, y.Queue, born), x.p.seek(y.Topic, y.Queue, born); at != want {
				t.Fatalf("Seek in %q, %d of %d: %d, not %d", y.Topic, y.Queue, born, at, want)
			}
		}
	}
}

func play(t *testing.T, b []byte) {
	x := newPair(t, slices.Clone(b))
	for len(x.rest) > 0 {
		x.step(t)
		x.alike(t)
	}
}

func TestAsThePlainQueues(t *testing.T) {
	r := rand.New(rand.NewSource(10))
	for range 1000 {
		b := make([]byte, 20+r.Intn(1500))
		r.Read(b)
		play(t, b)
	}
}

func FuzzQueues(f *testing.F) {
	f.Add([]byte{})
	r := rand.New(rand.NewSource(11))
	for range 20 {
		b := make([]byte, 600)
		r.Read(b)
		f.Add(b)
	}
	f.Fuzz(func(t *testing.T, b []byte) { play(t, b[:min(len(b), 1200)]) })
}
