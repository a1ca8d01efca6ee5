package deq_test

import (
	"math/rand"
	"slices"
	"strings"
	"testing"

	"reveille/api"
	"reveille/disk"
	"reveille/pend"
	"reveille/rec"
	"reveille/tape"
	"reveille/tlog"
)

const other = "other" // the tag of deliveries that no dequeuer put

// plain is a dequeuer as the chapter's words say it, over all records that are on its tape, over all that was noted, gone through once more each time, and over a timer log of its own.
type plain struct {
	main, cache *disk.Disk
	tape        *tape.Tape
	timers      *tlog.Log
	records     []item // that are on the tape
	notes       []item
	list        []int
}

// pending tells whether a record is: it was noted, and nothing that ends it was noted behind that.
func (p *plain) pending(id int) bool {
	is := false
	for _, v := range p.notes {
		switch v.m.Kind {
		case api.Scheduled:
			is = is || v.id == id
		case api.Delivery, api.Cancel:
			if is && v.m.Ref == id {
				return false
			}
		}
	}
	return is
}

func (p *plain) step(now int) (bool, api.Errno) {
	if len(p.list) > 0 {
		e := p.first(p.list[0], now)
		if e == api.OK {
			p.list = p.list[1:]
		}
		return e == api.OK, e
	}
	if p.timers.Hand() >= now {
		return false, api.OK
	}
	l, did, e := p.timers.Next(now)
	for _, m := range l {
		p.list = append(p.list, m.At)
	}
	return did, e
}

// first is what becomes of the list's first one.
func (p *plain) first(id, now int) api.Errno {
	i := slices.IndexFunc(p.records, func(v item) bool { return v.id == id })
	switch {
	case !p.pending(id), i < 0:
		return api.OK
	case p.main.Down():
		return api.ErrDown
	}
	m := p.records[i].m
	m.Kind, m.Ref, m.Born = 3, id, now
	at, e := p.tape.Append(m)
	if e == api.OK {
		p.records = append(p.records, item{at, m})
		p.notes = append(p.notes, item{at, m})
	}
	return e
}

// twins are a dequeuer, and the plain one that it is held against; each has a tape, and a timer log, of its own.
type twins struct {
	rig
	p    *plain
	now  int
	rest []byte // tells what happens next; of none that are left, noughts
}

func (w *twins) next(n int) int {
	if len(w.rest) == 0 {
		return 0
	}
	b := w.rest[0]
	w.rest = w.rest[1:]
	return int(b) % n
}

// alike fails, if two disks differ.
func alike(t *testing.T, d, x *disk.Disk) {
	t.Helper()
	if d.Down() != x.Down() || !d.Down() && !d.Same(x) || d.Waits() != x.Waits() {
		t.Fatalf("the files %v, down %t, %d wait, not %v, %t, %d", d.List(""), d.Down(), d.Waits(), x.List(""), x.Down(), x.Waits())
	}
}

// alike fails, if one look tells another thing than that which it is held against.
func (w *twins) alike(t *testing.T) {
	t.Helper()
	alike(t, w.main, w.p.main)
	alike(t, w.cache, w.p.cache)
	w.dueAre(t, w.p.list...)
	for _, now := range []int{w.now, w.now - 1, w.timers.Hand(), w.timers.Hand() + 1, -1} {
		w.busy(t, now, len(w.p.list) > 0 || w.p.timers.Hand() < now)
	}
	if w.timers.Hand() != w.p.timers.Hand() || w.timers.Len() != w.p.timers.Len() {
		t.Fatalf("hand %d, %d marks, not %d, %d", w.timers.Hand(), w.timers.Len(), w.p.timers.Hand(), w.p.timers.Len())
	}
	if w.tape.End() != w.p.tape.End() || w.tape.Synced() != w.p.tape.Synced() || !slices.Equal(w.tape.Ids(0), w.p.tape.Ids(0)) {
		t.Fatalf("up to %d, synced up to %d, not %d, %d", w.tape.End(), w.tape.Synced(), w.p.tape.End(), w.p.tape.Synced())
	}
	var want []int
	for _, v := range w.p.notes {
		if v.m.Kind == api.Scheduled && w.p.pending(v.id) && !slices.Contains(want, v.id) {
			want = append(want, v.id)
		}
	}
	l := w.set.Pending()
	slices.Sort(l)
	slices.Sort(want)
	if !slices.Equal(l, want) {
		t.Fatalf("%v are pending, not %v", l, want)
	}
}

// once fails, if more than one delivery of a record was put by a dequeuer.
func (w *twins) once(t *testing.T) {
	t.Helper()
	if w.main.Down() {
		return
	}
	for id, l := range deliveries(t, w.tape) {
		own := slices.DeleteFunc(l, func(m api.Msg) bool { return m.Tag == other })
		if len(own) > 1 {
			t.Fatalf("of %d: %+v", id, own)
		}
	}
}

// both does one thing to two disks.
func both(t *testing.T, d, x *disk.Disk, do func(d *disk.Disk) api.Errno) {
	t.Helper()
	if e, want := do(d), do(x); e != want {
		t.Fatalf("%d, not %d", e, want)
	}
}

// steps does some steps with both.
func (w *twins) steps(t *testing.T, n int) {
	t.Helper()
	for range n {
		did, e := w.deq.Step(w.now)
		if want, wrong := w.p.step(w.now); did != want || e != wrong {
			t.Fatalf("Step at %d: %t, %d, not %t, %d", w.now, did, e, want, wrong)
		}
		w.alike(t)
	}
}

// some is the number of some scheduled record that is on the tape, or of none.
func (w *twins) some() int {
	var l []int
	for _, v := range w.p.records {
		if v.m.Kind == api.Scheduled {
			l = append(l, v.id)
		}
	}
	if n := len(l); n > 0 {
		return l[max(0, n-1-w.next(8))]
	}
	return w.next(256)
}

// record is any record that is right.
func (w *twins) record() api.Msg {
	kind := []int{api.Scheduled, api.Message, api.Scheduled, api.Scheduled, api.Delivery, api.Scheduled, api.Scheduled, api.Cancel}[w.next(8)]
	if kind == api.Cancel {
		return api.Msg{Kind: kind, Ref: w.some(), Born: w.now}
	}
	m := api.Msg{Kind: kind, Topic: []string{"a", "b", "%retry%g", "%dead%g"}[w.next(4)], Queue: w.next(3), Retry: w.next(5), Born: w.now}
	m.Tag, m.Body, m.Keys = []string{"", "x", "yy"}[w.next(3)], strings.Repeat("b", w.next(201)), []string{"k", "l", "m"}[:w.next(4)]
	switch kind {
	case api.Scheduled:
		m.Due, m.Ref = w.now+w.next(50), w.next(256)
	case api.Delivery:
		m.Tag, m.Ref = other, w.some()
	}
	return m
}

// appends appends a record to both tapes, and notes it; a scheduled one is put into the timer logs, or added.
func (w *twins) appends(t *testing.T) {
	t.Helper()
	m := w.record()
	id, e := w.tape.Append(m)
	if at, wrong := w.p.tape.Append(m); at != id || e != wrong {
		t.Fatalf("Append: %d, %d, not %d, %d", id, e, at, wrong)
	}
	if e != api.OK {
		return
	}
	w.p.records = append(w.p.records, item{id, m})
	if w.next(16) == 1 { // once in a while one isn't noted
		return
	}
	w.note(item{id, m})
	if m.Kind == api.Scheduled {
		w.hears(t, id, m.Due)
	}
}

// note notes a record for both.
func (w *twins) note(v item) {
	w.set.Note(v.id, v.m)
	w.p.notes = append(w.p.notes, v)
}

// hears lets both dequeuers hear of a record, now or when it is due.
func (w *twins) hears(t *testing.T, id, due int) {
	t.Helper()
	if due <= w.timers.Hand() {
		w.deq.Add(id)
		w.p.list = append(w.p.list, id)
		return
	}
	if e, want := w.timers.Put(due, id), w.p.timers.Put(due, id); e != want {
		t.Fatalf("Put: %d, not %d", e, want)
	}
}

// adds adds some numbers, whatever they are of.
func (w *twins) adds() {
	var l []int
	for range w.next(5) {
		l = append(l, []int{w.some(), w.some(), w.next(256), -1, w.tape.End()}[w.next(5)])
	}
	w.deq.Add(l...)
	w.p.list = append(w.p.list, l...)
}

// drop lets both tapes' first segments go, and, perhaps, what was noted of them.
func (w *twins) drop(t *testing.T) {
	t.Helper()
	begin, e := w.tape.Drop()
	if at, want := w.p.tape.Drop(); at != begin || e != want {
		t.Fatalf("Drop: %d, %d, not %d, %d", begin, e, at, want)
	}
	if e != api.OK {
		return
	}
	gone := func(v item) bool { return v.id < begin }
	w.p.records = slices.DeleteFunc(w.p.records, gone)
	if w.next(2) == 0 {
		w.set.Trim(begin)
		w.p.notes = slices.DeleteFunc(w.p.notes, func(v item) bool { return gone(v) && v.m.Kind == api.Scheduled })
	}
}

// plan is a crash that loses some of what waits on a disk, or nothing.
func (w *twins) plan(d *disk.Disk) disk.Plan {
	p := disk.Plan{Lack: w.next(60) - 5}
	for range w.next(d.Waits() + 2) {
		p.Keep = append(p.Keep, w.next(6) > 0)
	}
	return p
}

// reopens lets all disks crash, and begins anew.
func (w *twins) reopens(t *testing.T) {
	t.Helper()
	p := w.plan(w.main)
	w.main.Crash(p)
	w.p.main.Crash(p)
	p = w.plan(w.cache)
	w.cache.Crash(p)
	w.p.cache.Crash(p)
	if w.cache.Room() < 200 {
		w.cache, w.p.cache = disk.New(3000), disk.New(3000)
	}
	w.begin(t)
}

// begin opens both tapes, notes what is on them, and makes the timer logs and the dequeuers anew.
func (w *twins) begin(t *testing.T) {
	t.Helper()
	var e [3]api.Errno
	w.tape, e[0] = tape.Open(w.main)
	w.p.tape, e[1] = tape.Open(w.p.main)
	w.p.timers, e[2] = tlog.New(w.p.cache, w.now)
	ok(t, e[:]...)
	w.set, w.p.records, w.p.notes, w.p.list = pend.New(), nil, nil, nil
	w.again(t, w.now)
	for _, id := range w.tape.Ids(0) {
		m, e := w.p.tape.Read(id)
		if x, wrong := w.tape.Read(id); e != wrong || e != api.OK || !rec.Same(m, x) {
			t.Fatalf("Read of %d: %+v, %d, not %+v, %d", id, x, wrong, m, e)
		}
		w.p.records = append(w.p.records, item{id, m})
		w.note(item{id, m})
	}
	for _, v := range w.p.records {
		if v.m.Kind == api.Scheduled {
			w.hears(t, v.id, v.m.Due)
		}
	}
	w.alike(t)
}

// takesRoom lets somebody else's file be longer, or shorter, on one of the disks.
func (w *twins) takesRoom(t *testing.T) {
	t.Helper()
	d, x, room := w.main, w.p.main, w.next(256)
	if w.next(2) == 0 {
		d, x, room = w.cache, w.p.cache, room/2
	}
	if d.Down() {
		return
	}
	if len(d.List("y")) == 0 {
		both(t, d, x, func(d *disk.Disk) api.Errno { return d.Create("y") })
	}
	n := d.Len("y")
	if w.next(2) == 0 {
		more := max(d.Room()-room, 0)
		both(t, d, x, func(d *disk.Disk) api.Errno { return d.Write("y", n, strings.Repeat("y", more)) })
		return
	}
	less := max(n-10*w.next(256), 0)
	both(t, d, x, func(d *disk.Disk) api.Errno { return d.Cut("y", less) })
}

// fuse puts a fuse to two disks.
func (w *twins) fuse(t *testing.T, d, x *disk.Disk) {
	t.Helper()
	n := w.next(12)
	both(t, d, x, func(d *disk.Disk) api.Errno { d.Fuse(n); return api.OK })
}

// step does one thing.
func (w *twins) step(t *testing.T) {
	t.Helper()
	switch w.next(28) {
	default:
		w.appends(t)
	case 9, 10, 11, 12, 13, 14, 15:
		w.steps(t, 1+w.next(12))
	case 16, 17:
		w.now += w.next(20)
		w.steps(t, w.next(30))
	case 18:
		if e, want := w.tape.Sync(), w.p.tape.Sync(); e != want {
			t.Fatalf("Sync: %d, not %d", e, want)
		}
	case 19:
		w.drop(t)
	case 20, 21:
		w.takesRoom(t)
	case 22:
		w.fuse(t, w.cache, w.p.cache)
	case 23:
		w.fuse(t, w.main, w.p.main)
	case 24:
		w.reopens(t)
	case 25, 26:
		w.adds()
	case 27:
		was := w.now
		w.now = []int{0, -1, 1<<40 + 1, was - 1}[w.next(4)]
		w.steps(t, 1+w.next(2))
		w.now = was
	}
	w.alike(t)
	if (w.main.Down() || w.cache.Down()) && w.next(2) == 0 {
		w.reopens(t)
	}
}

func play(t *testing.T, b []byte) {
	w := &twins{rest: slices.Clone(b), p: &plain{}, now: 10}
	w.main, w.cache = disk.New(2000+30*w.next(256)), disk.New(300+8*w.next(256))
	w.p.main, w.p.cache = disk.New(w.main.Room()), disk.New(w.cache.Room())
	w.begin(t)
	for len(w.rest) > 0 {
		w.step(t)
		w.once(t)
	}
}

func TestAsThePlainDequeuer(t *testing.T) {
	r := rand.New(rand.NewSource(20))
	for range 600 {
		b := make([]byte, 20+r.Intn(800))
		r.Read(b)
		play(t, b)
	}
}

func FuzzDequeuer(f *testing.F) {
	f.Add([]byte{})
	r := rand.New(rand.NewSource(21))
	for range 20 {
		b := make([]byte, 500)
		r.Read(b)
		f.Add(b)
	}
	f.Fuzz(func(t *testing.T, b []byte) { play(t, b[:min(len(b), 1200)]) })
}
