package enq_test

import (
	"math/rand"
	"slices"
	"strings"
	"testing"

	"reveille/api"
	"reveille/disk"
	"reveille/pend"
	"reveille/tape"
	"reveille/tlog"
)

// plain is an enqueuer as the chapter's words say it, over all records that are on the tape, in order, and over a timer log of its own.
type plain struct {
	d      *disk.Disk
	timers *tlog.Log
	notes  []item
	cursor int
	late   []int
}

// synced is the records from the cursor on that are synced.
func (p *plain) synced(t *testing.T, w *twins) []item {
	var l []item
	for _, v := range w.records {
		if v.id >= max(p.cursor, w.tape.Begin()) && v.id+size(t, v.m) <= w.tape.Synced() {
			l = append(l, v)
		}
	}
	return l
}

// pending tells whether a record is: it was noted, and nothing that ends it was noted behind that.
func (p *plain) pending(id int) bool {
	is := false
	for _, v := range p.notes {
		switch v.m.Kind {
		case api.Scheduled:
			is = is || v.id == id
		case api.Delivery, api.Cancel:
			if is && v.m.Ref == id {
				return false
			}
		}
	}
	return is
}

func (p *plain) step(t *testing.T, w *twins) (bool, api.Errno) {
	p.cursor = max(p.cursor, w.tape.Begin())
	l := p.synced(t, w)
	if len(l) == 0 {
		return false, api.OK
	}
	if w.main.Down() {
		return false, api.ErrDown
	}
	last := l[len(l)-1]
	i := slices.IndexFunc(l, isScheduled)
	if i >= 0 {
		last = l[i]
		if e := p.look(last); e != api.OK {
			return false, e
		}
	}
	p.cursor = last.id + size(t, last.m)
	return i >= 0, api.OK
}

// look looks at a scheduled record.
func (p *plain) look(v item) api.Errno {
	switch {
	case !p.pending(v.id):
		return api.OK
	case v.m.Due <= p.timers.Hand():
		p.late = append(p.late, v.id)
		return api.OK
	}
	return p.timers.Put(v.m.Due, v.id)
}

func isScheduled(v item) bool { return v.m.Kind == api.Scheduled }

// twins are an enqueuer, and the plain one that it is held against; they go along one tape.
type twins struct {
	rig
	records []item // that are on the tape
	p       *plain
	rest    []byte // tells what happens next; of none that are left, noughts
}

func (w *twins) next(n int) int {
	if len(w.rest) == 0 {
		return 0
	}
	b := w.rest[0]
	w.rest = w.rest[1:]
	return int(b) % n
}

// both does one thing to the disks of both timer logs.
func (w *twins) both(t *testing.T, do func(d *disk.Disk) api.Errno) {
	t.Helper()
	if e, want := do(w.cache), do(w.p.d); e != want {
		t.Fatalf("%d, not %d", e, want)
	}
}

// note notes a record for both; of those that aren't there any more it is asked no more.
func (w *twins) note(v item) {
	w.set.Note(v.id, v.m)
	w.p.notes = append(w.p.notes, v)
}

// begin makes both anew; where their disk is down, a crash comes first, and where it has no room, it becomes another one.
func (w *twins) begin(t *testing.T) {
	t.Helper()
	if w.cache.Down() {
		w.crash()
	}
	if w.cache.Room() < 96 {
		w.cache, w.p.d = disk.New(2000), disk.New(2000)
	}
	w.cache.Fuse(noFuse)
	w.p.d.Fuse(noFuse)
	w.set, w.p.notes = pend.New(), nil
	for _, v := range w.records {
		w.note(v)
	}
	hand := w.next(100)
	w.again(t, hand)
	var e api.Errno
	w.p.timers, e = tlog.New(w.p.d, hand)
	w.p.cursor, w.p.late = w.tape.Begin(), nil
	ok(t, e)
}

// crash loses some of what waits on the timer logs' disks, or nothing.
func (w *twins) crash() {
	p := disk.Plan{Lack: w.next(25) - 2}
	for range w.next(w.cache.Waits() + 2) {
		p.Keep = append(p.Keep, w.next(5) > 0)
	}
	w.cache.Crash(p)
	w.p.d.Crash(p)
}

// reopen lets the tape's disk crash, and opens the tape anew.
func (w *twins) reopen(t *testing.T) {
	t.Helper()
	p := disk.Plan{Lack: w.next(50)}
	for range w.next(w.main.Waits() + 2) {
		p.Keep = append(p.Keep, w.next(5) > 0)
	}
	w.main.Crash(p)
	var e api.Errno
	w.tape, e = tape.Open(w.main)
	ok(t, e)
	ids := w.tape.Ids(0)
	w.records = slices.DeleteFunc(w.records, func(v item) bool { return !slices.Contains(ids, v.id) })
	w.begin(t)
}

// over is the number of some scheduled record that is on the tape, or of none.
func (w *twins) over() int {
	var l []int
	for _, v := range w.records {
		if isScheduled(v) {
			l = append(l, v.id)
		}
	}
	if n := len(l); n > 0 {
		return l[max(0, n-1-w.next(6))]
	}
	return w.next(256)
}

// record is any record that is right.
func (w *twins) record() api.Msg {
	kind := []int{api.Scheduled, api.Message, api.Scheduled, api.Delivery, api.Scheduled, api.Cancel}[w.next(6)]
	if kind == api.Cancel {
		return api.Msg{Kind: kind, Ref: w.over(), Born: w.next(256)}
	}
	m := api.Msg{Kind: kind, Topic: []string{"a", "b", "%retry%g", "%dead%g"}[w.next(4)], Queue: w.next(3), Born: w.next(256) << w.next(32)}
	m.Tag, m.Body = []string{"", "x", "yy"}[w.next(3)], strings.Repeat("b", w.next(201))
	switch kind {
	case api.Scheduled:
		m.Due, m.Ref = w.next(128), w.next(256)
		if w.next(16) == 1 {
			m.Due <<= 33
		}
	case api.Delivery:
		m.Due, m.Ref = w.next(256), w.over()
	}
	return m
}

func (w *twins) appends(t *testing.T) {
	t.Helper()
	for range 1 + w.next(5) {
		m := w.record()
		id, e := w.tape.Append(m)
		switch e {
		case api.OK:
			w.records = append(w.records, item{id, m})
			if w.next(16) != 1 { // once in a while one isn't noted
				w.note(item{id, m})
			}
		case api.ErrDown:
			w.alike(t)
			w.steps(t, 2)
			w.reopen(t)
		case api.ErrFull:
			w.drop()
		default:
			t.Fatalf("Append of %+v: %d", m, e)
		}
	}
}

// drop lets the tape's first segment go, if there is another one, and what was noted of it.
func (w *twins) drop() {
	w.tape.Drop()
	w.records = slices.DeleteFunc(w.records, func(v item) bool { return v.id < w.tape.Begin() })
	w.set.Trim(w.tape.Begin())
}

// steps does some steps with both.
func (w *twins) steps(t *testing.T, n int) {
	t.Helper()
	for range n {
		did, e := w.enq.Step()
		if want, wrong := w.p.step(t, w); did != want || e != wrong {
			t.Fatalf("Step: %t, %d, not %t, %d", did, e, want, wrong)
		}
		w.alike(t)
	}
}

// allSteps does all steps with both.
func (w *twins) allSteps(t *testing.T) {
	t.Helper()
	n, e := w.enq.All()
	want := 0
	did, wrong := w.p.step(t, w)
	for ; did; did, wrong = w.p.step(t, w) {
		want++
	}
	if n != want || e != wrong {
		t.Fatalf("All: %d, %d, not %d, %d", n, e, want, wrong)
	}
}

// asksLate asks both who is late.
func (w *twins) asksLate(t *testing.T) {
	t.Helper()
	w.lateAre(t, w.p.late...)
	w.p.late = nil
}

// seconds lets the hands of both go on.
func (w *twins) seconds(t *testing.T) {
	t.Helper()
	for range w.next(40) {
		l, did, e := w.timers.Next(200)
		want, wants, wrong := w.p.timers.Next(200)
		if !slices.Equal(l, want) || did != wants || e != wrong {
			t.Fatalf("Next: %v, %t, %d, not %v, %t, %d", l, did, e, want, wants, wrong)
		}
	}
}

// takesRoom lets somebody else's file be longer, or shorter.
func (w *twins) takesRoom(t *testing.T) {
	t.Helper()
	if w.cache.Down() {
		return
	}
	n := w.cache.Len("y")
	if len(w.cache.List("y")) == 0 {
		w.both(t, func(d *disk.Disk) api.Errno { return d.Create("y") })
	}
	if w.next(2) == 0 {
		more := max(w.cache.Room()-w.next(100), 0)
		w.both(t, func(d *disk.Disk) api.Errno { return d.Write("y", n, strings.Repeat("y", more)) })
		return
	}
	less := max(n-10*w.next(256), 0)
	w.both(t, func(d *disk.Disk) api.Errno { return d.Cut("y", less) })
}

// step does one thing.
func (w *twins) step(t *testing.T) {
	t.Helper()
	switch w.next(26) {
	default:
		w.appends(t)
	case 6, 7, 8:
		w.tape.Sync()
	case 9, 10, 11, 12:
		w.steps(t, 1+w.next(8))
	case 13, 14:
		w.allSteps(t)
	case 15, 16:
		w.drop()
	case 17, 18:
		w.takesRoom(t)
	case 19:
		n := w.next(12)
		w.both(t, func(d *disk.Disk) api.Errno { d.Fuse(n); return api.OK })
	case 20:
		w.main.Fuse(w.next(12))
	case 21:
		w.reopen(t)
	case 22:
		w.begin(t)
	case 23:
		w.crash()
		w.begin(t)
	case 24:
		w.seconds(t)
	case 25:
		w.asksLate(t)
	}
	w.alike(t)
	if w.main.Down() && w.next(2) == 0 {
		w.reopen(t)
	}
	if w.cache.Down() && w.next(2) == 0 {
		w.begin(t)
	}
}

// left is how many scheduled records are left: while the tape can't be read, those that were noted.
func (w *twins) left(t *testing.T) int {
	n := 0
	for _, v := range w.p.synced(t, w) {
		noted := slices.ContainsFunc(w.p.notes, func(x item) bool { return x.id == v.id })
		if isScheduled(v) && (noted || !w.main.Down()) {
			n++
		}
	}
	return n
}

// alike fails, if one look tells another thing than that which it is held against.
func (w *twins) alike(t *testing.T) {
	t.Helper()
	if !w.cache.Same(w.p.d) || w.cache.Waits() != w.p.d.Waits() || w.cache.Down() != w.p.d.Down() {
		t.Fatalf("the files %v, down %t, not %v, %t", w.cache.List(""), w.cache.Down(), w.p.d.List(""), w.p.d.Down())
	}
	if w.timers.Len() != w.p.timers.Len() || w.timers.Hand() != w.p.timers.Hand() {
		t.Fatalf("%d marks, hand %d, not %d, %d", w.timers.Len(), w.timers.Hand(), w.p.timers.Len(), w.p.timers.Hand())
	}
	if left := w.left(t); w.enq.Cursor() != w.p.cursor || w.enq.Left() != left {
		t.Fatalf("Cursor: %d; Left: %d, not %d, %d", w.enq.Cursor(), w.enq.Left(), w.p.cursor, left)
	}
}

func play(t *testing.T, b []byte) {
	w := &twins{rest: slices.Clone(b), p: &plain{}}
	w.main, w.cache = disk.New(2000+30*w.next(256)), disk.New(96+5*w.next(256))
	w.p.d = disk.New(w.cache.Room())
	var e api.Errno
	w.tape, e = tape.Open(w.main)
	ok(t, e)
	w.begin(t)
	for len(w.rest) > 0 {
		w.step(t)
	}
	w.asksLate(t)
}

func TestAsThePlainEnqueuer(t *testing.T) {
	r := rand.New(rand.NewSource(19))
	for range 1000 {
		b := make([]byte, 20+r.Intn(800))
		r.Read(b)
		play(t, b)
	}
}

func FuzzEnqueuer(f *testing.F) {
	f.Add([]byte{})
	r := rand.New(rand.NewSource(20))
	for range 20 {
		b := make([]byte, 500)
		r.Read(b)
		f.Add(b)
	}
	f.Fuzz(func(t *testing.T, b []byte) { play(t, b[:min(len(b), 1200)]) })
}
