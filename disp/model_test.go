package disp_test

import (
	"math/rand"
	"slices"
	"strings"
	"testing"

	"reveille/api"
	"reveille/cq"
	"reveille/disk"
	"reveille/keyx"
	"reveille/tape"
)

// plain is a dispatcher as the chapter's words say it, over all records that are on the tape, in order, and over queues and an index of its own.
type plain struct {
	d      *disk.Disk
	q      *cq.Queues
	x      *keyx.Index
	cursor int
}

// left is the records from the cursor on that are synced.
func (p *plain) left(t *testing.T, w *twins) []item {
	var l []item
	for _, v := range w.records {
		if v.id >= max(p.cursor, w.tape.Begin()) && v.id+size(t, v.m) <= w.tape.Synced() {
			l = append(l, v)
		}
	}
	return l
}

func (p *plain) step(t *testing.T, w *twins) (bool, api.Errno) {
	p.cursor = max(p.cursor, w.tape.Begin())
	l := p.left(t, w)
	if len(l) == 0 {
		return false, api.OK
	}
	if w.main.Down() {
		return false, api.ErrDown
	}
	if e := p.look(t, l[0]); e != api.OK {
		return false, e
	}
	p.cursor = l[0].id + size(t, l[0].m)
	return true, api.OK
}

// look looks at a record: what isn't there whole when it is refused isn't there at all, but where the disk goes down; all is made anew then.
func (p *plain) look(t *testing.T, v item) api.Errno {
	switch {
	case v.m.Kind == api.Scheduled || v.m.Kind == api.Cancel:
		return api.OK
	case p.d.Down():
		return api.ErrDown
	case p.d.Room() < 20+20*len(v.m.Keys):
		return api.ErrFull
	}
	_, e := p.q.Add(v.m.Topic, v.m.Queue, v.place(t))
	for _, k := range v.m.Keys {
		if e == api.OK {
			e = p.x.Add(v.m.Topic, k, v.id, v.m.Born)
		}
	}
	return e
}

// twins are a dispatcher, and the plain one that it is held against; they go along one tape.
type twins struct {
	rig
	records []item // that are on the tape
	p       *plain
	rest    []byte // tells what happens next; of none that are left, noughts
}

func (w *twins) next(n int) int {
	if len(w.rest) == 0 {
		return 0
	}
	b := w.rest[0]
	w.rest = w.rest[1:]
	return int(b) % n
}

// both does one thing to what both write to.
func (w *twins) both(t *testing.T, do func(d *disk.Disk) api.Errno) {
	t.Helper()
	if e, want := do(w.cache), do(w.p.d); e != want {
		t.Fatalf("%d, not %d", e, want)
	}
}

// begin makes both anew; where their disk is down, a crash comes first, and where it has no room, it becomes another one.
func (w *twins) begin(t *testing.T) {
	t.Helper()
	if w.cache.Down() {
		w.crash()
	}
	if w.cache.Room() < 24 {
		w.cache, w.p.d = disk.New(3000), disk.New(3000)
	}
	w.cache.Fuse(noFuse)
	w.p.d.Fuse(noFuse)
	w.again(t)
	var e, wrong api.Errno
	w.p.q, e = cq.New(w.p.d)
	w.p.x, wrong = keyx.New(w.p.d)
	w.p.cursor = w.tape.Begin()
	ok(t, e, wrong)
}

// crash loses some of what waits on what is derived, or nothing.
func (w *twins) crash() {
	p := disk.Plan{Lack: w.next(25) - 2}
	for range w.next(w.cache.Waits() + 2) {
		p.Keep = append(p.Keep, w.next(5) > 0)
	}
	w.cache.Crash(p)
	w.p.d.Crash(p)
}

// reopen lets the tape's disk crash, and opens the tape anew.
func (w *twins) reopen(t *testing.T) {
	t.Helper()
	p := disk.Plan{Lack: w.next(50)}
	for range w.next(w.main.Waits() + 2) {
		p.Keep = append(p.Keep, w.next(5) > 0)
	}
	w.main.Crash(p)
	var e api.Errno
	w.tape, e = tape.Open(w.main)
	ok(t, e)
	ids := w.tape.Ids(0)
	w.records = slices.DeleteFunc(w.records, func(v item) bool { return !slices.Contains(ids, v.id) })
	w.begin(t)
}

// record is any record that is right.
func (w *twins) record() api.Msg {
	kind := 1 + w.next(6)%4
	if kind == api.Cancel {
		return api.Msg{Kind: kind, Ref: w.next(256) << w.next(30), Born: w.next(256)}
	}
	m := api.Msg{Kind: kind, Topic: []string{"a", "b", "%retry%g", "%dead%g"}[w.next(4)], Queue: w.next(3), Born: w.next(256) << w.next(32)}
	m.Tag, m.Body = []string{"", "x", "yy"}[w.next(3)], strings.Repeat("b", w.next(201))
	for i := range w.next(4) {
		m.Keys = append(m.Keys, []string{"k", "Aa", "BB"}[i])
	}
	if kind != api.Message {
		m.Due, m.Ref = w.next(256), w.next(256)
	}
	return m
}

func (w *twins) appends(t *testing.T) {
	t.Helper()
	for range 1 + w.next(5) {
		m := w.record()
		id, e := w.tape.Append(m)
		switch e {
		case api.OK:
			w.records = append(w.records, item{id, m})
		case api.ErrDown:
			w.alike(t)
			w.steps(t, 2)
			w.reopen(t)
		case api.ErrFull:
			w.drop()
		default:
			t.Fatalf("Append of %+v: %d", m, e)
		}
	}
}

// drop lets the tape's first segment go, if there is another one.
func (w *twins) drop() {
	w.tape.Drop()
	w.records = slices.DeleteFunc(w.records, func(v item) bool { return v.id < w.tape.Begin() })
}

// steps does some steps with both.
func (w *twins) steps(t *testing.T, n int) {
	t.Helper()
	for range n {
		did, e := w.disp.Step()
		if want, wrong := w.p.step(t, w); did != want || e != wrong {
			t.Fatalf("Step: %t, %d, not %t, %d", did, e, want, wrong)
		}
		w.alike(t)
	}
}

// goesOn does all steps with both.
func (w *twins) goesOn(t *testing.T) {
	t.Helper()
	n, e := w.disp.All()
	want := 0
	did, wrong := w.p.step(t, w)
	for ; did; did, wrong = w.p.step(t, w) {
		want++
	}
	if n != want || e != wrong {
		t.Fatalf("All: %d, %d, not %d, %d", n, e, want, wrong)
	}
}

// takesRoom lets somebody else's file be longer, or shorter.
func (w *twins) takesRoom(t *testing.T) {
	t.Helper()
	if w.cache.Down() {
		return
	}
	n := w.cache.Len("y")
	if len(w.cache.List("y")) == 0 {
		w.both(t, func(d *disk.Disk) api.Errno { return d.Create("y") })
	}
	if w.next(2) == 0 {
		more := max(w.cache.Room()-w.next(150), 0)
		w.both(t, func(d *disk.Disk) api.Errno { return d.Write("y", n, strings.Repeat("y", more)) })
		return
	}
	less := max(n-10*w.next(256), 0)
	w.both(t, func(d *disk.Disk) api.Errno { return d.Cut("y", less) })
}

// step does one thing.
func (w *twins) step(t *testing.T) {
	t.Helper()
	switch w.next(24) {
	default:
		w.appends(t)
	case 6, 7, 8:
		w.tape.Sync()
	case 9, 10, 11, 12:
		w.steps(t, 1+w.next(8))
	case 13, 14:
		w.goesOn(t)
	case 15:
		w.drop()
	case 16:
		w.drop()
		w.both(t, func(d *disk.Disk) api.Errno {
			if d == w.cache {
				return w.queues.Trim(w.tape.Begin())
			}
			return w.p.q.Trim(w.tape.Begin())
		})
	case 17, 18:
		w.takesRoom(t)
	case 19:
		n := w.next(12)
		w.both(t, func(d *disk.Disk) api.Errno { d.Fuse(n); return api.OK })
	case 20:
		w.main.Fuse(w.next(12))
	case 21:
		w.reopen(t)
	case 22:
		w.begin(t)
	case 23:
		w.crash()
		w.begin(t)
	}
	w.alike(t)
	if w.main.Down() && w.next(2) == 0 {
		w.reopen(t)
	}
	if w.cache.Down() && w.next(2) == 0 {
		w.begin(t)
	}
}

// alike fails, if one look tells another thing than that which it is held against.
func (w *twins) alike(t *testing.T) {
	t.Helper()
	if !w.cache.Same(w.p.d) || w.cache.Waits() != w.p.d.Waits() || w.cache.Down() != w.p.d.Down() {
		t.Fatalf("the files %v, down %t, not %v, %t", w.cache.List(""), w.cache.Down(), w.p.d.List(""), w.p.d.Down())
	}
	if l, want := w.queues.All(), w.p.q.All(); !slices.Equal(l, want) || w.index.Len() != w.p.x.Len() {
		t.Fatalf("the queues %v, and %d keys, not %v, %d", l, w.index.Len(), want, w.p.x.Len())
	}
	if left := len(w.p.left(t, w)); w.disp.Cursor() != w.p.cursor || w.disp.Left() != left {
		t.Fatalf("Cursor: %d; Left: %d, not %d, %d", w.disp.Cursor(), w.disp.Left(), w.p.cursor, left)
	}
}

func play(t *testing.T, b []byte) {
	w := &twins{rest: slices.Clone(b), p: &plain{}}
	w.main, w.cache = disk.New(2000+30*w.next(256)), disk.New(24+10*w.next(256))
	w.p.d = disk.New(w.cache.Room())
	var e api.Errno
	w.tape, e = tape.Open(w.main)
	ok(t, e)
	w.begin(t)
	for len(w.rest) > 0 {
		w.step(t)
	}
}

func TestAsThePlainDispatcher(t *testing.T) {
	r := rand.New(rand.NewSource(18))
	for range 1000 {
		b := make([]byte, 20+r.Intn(800))
		r.Read(b)
		play(t, b)
	}
}

func FuzzDispatcher(f *testing.F) {
	f.Add([]byte{})
	r := rand.New(rand.NewSource(19))
	for range 20 {
		b := make([]byte, 500)
		r.Read(b)
		f.Add(b)
	}
	f.Fuzz(func(t *testing.T, b []byte) { play(t, b[:min(len(b), 1200)]) })
}
