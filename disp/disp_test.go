package disp_test

import (
	"fmt"
	"math"
	"slices"
	"strings"
	"testing"

	"reveille/api"
	"reveille/cq"
	"reveille/crc"
	"reveille/disk"
	"reveille/disp"
	"reveille/entry"
	"reveille/keyx"
	"reveille/rec"
	"reveille/tape"
)

// All tests of this package hold promise P18.1: all are what the chapter says, and a queue's entries are its topic's and number's messages and deliveries, in the tape's order.

const (
	segment = 1024
	least   = 36  // bytes of a message of topic "a"
	longest = 236 // the same with the longest body
)

var sums = crc.New()

// item is a record, and its number.
type item struct {
	id int
	m  api.Msg
}

// rig is a dispatcher, all that it goes along or writes to, and all records that were ever put.
type rig struct {
	main, cache *disk.Disk
	tape        *tape.Tape
	queues      *cq.Queues
	index       *keyx.Index
	disp        *disp.Dispatcher
	all         []item
}

// ok fails, if a call wasn't told OK.
func ok(t *testing.T, l ...api.Errno) {
	t.Helper()
	for i, e := range l {
		if e != api.OK {
			t.Fatalf("call %d: %d, not OK", i, e)
		}
	}
}

// fresh is a rig without records.
func fresh(t *testing.T) *rig {
	t.Helper()
	r := &rig{main: disk.New(1 << 20), cache: disk.New(1 << 16)}
	var e api.Errno
	r.tape, e = tape.Open(r.main)
	ok(t, e)
	r.again(t)
	return r
}

// again makes anew all that is derived.
func (r *rig) again(t *testing.T) {
	t.Helper()
	var e [3]api.Errno
	r.queues, e[0] = cq.New(r.cache)
	r.index, e[1] = keyx.New(r.cache)
	r.disp, e[2] = disp.New(r.tape, r.queues, r.index)
	ok(t, e[:]...)
}

// put appends records.
func (r *rig) put(t *testing.T, l ...api.Msg) {
	t.Helper()
	for _, m := range l {
		id, e := r.tape.Append(m)
		ok(t, e)
		r.all = append(r.all, item{id, m})
	}
}

// synced appends records, and syncs the tape.
func (r *rig) synced(t *testing.T, l ...api.Msg) {
	t.Helper()
	r.put(t, l...)
	ok(t, r.tape.Sync())
}

// steps does so many steps, and fails, if one does nothing.
func (r *rig) steps(t *testing.T, n int) {
	t.Helper()
	for i := range n {
		if did, e := r.disp.Step(); !did || e != api.OK {
			t.Fatalf("step %d: %t, %d", i, did, e)
		}
	}
}

// stays fails, if a step does something, or is told another error.
func (r *rig) stays(t *testing.T, want api.Errno) {
	t.Helper()
	if did, e := r.disp.Step(); did || e != want {
		t.Fatalf("Step: %t, %d, not %d", did, e, want)
	}
}

// stands fails, if the cursor stands elsewhere, or others are left.
func (r *rig) stands(t *testing.T, cursor, left int) {
	t.Helper()
	if r.disp.Cursor() != cursor || r.disp.Left() != left {
		t.Fatalf("Cursor: %d; Left: %d, not %d, %d", r.disp.Cursor(), r.disp.Left(), cursor, left)
	}
}

// has fails, if the queues and the index aren't what the records lead to, or the disk has another byte of them.
func (r *rig) has(t *testing.T, l ...item) {
	t.Helper()
	d := disk.New(1 << 20)
	q, e := cq.New(d)
	x, wrong := keyx.New(d)
	ok(t, e, wrong)
	for _, v := range l {
		v.enter(t, q, x)
	}
	for _, f := range r.cache.List("y") { // there may be others' files
		s, e := r.cache.All(f)
		ok(t, e, d.Create(f), d.Write(f, 0, s))
	}
	if !slices.Equal(r.queues.All(), q.All()) || r.index.Len() != x.Len() {
		t.Fatalf("the queues %v, and %d keys, not %v, %d", r.queues.All(), r.index.Len(), q.All(), x.Len())
	}
	if !r.cache.Same(d) {
		for _, f := range d.List("") {
			s, _ := r.cache.All(f)
			want, _ := d.All(f)
			t.Logf("%q: %q, not %q", f, s, want)
		}
		t.Fatalf("the files are others: %v, not %v", r.cache.List(""), d.List(""))
	}
}

// enter does what a record leads to.
func (v item) enter(t *testing.T, q *cq.Queues, x *keyx.Index) {
	t.Helper()
	if v.m.Kind != api.Message && v.m.Kind != api.Delivery {
		return
	}
	_, e := q.Add(v.m.Topic, v.m.Queue, v.place(t))
	ok(t, e)
	for _, k := range v.m.Keys {
		ok(t, x.Add(v.m.Topic, k, v.id, v.m.Born))
	}
}

// place is a record's entry in its queue.
func (v item) place(t *testing.T) entry.Place {
	t.Helper()
	return entry.Place{At: v.id, Long: size(t, v.m), Hash: hash(v.m.Tag), Born: v.m.Born}
}

// size is how many bytes a record has.
func size(t *testing.T, m api.Msg) int {
	t.Helper()
	s, e := rec.Put(sums, m)
	ok(t, e)
	return len(s)
}

// hash is a text's number, as chapter 3 says it.
func hash(s string) int {
	n := 0
	for _, b := range []byte(s) {
		n = (n*31 + int(b)) % (1 << 32)
	}
	return n
}

// sized is a message of so many bytes, from least to longest.
func sized(n int) api.Msg {
	return api.Msg{Kind: api.Message, Topic: "a", Body: strings.Repeat("b", n-least), Born: n}
}

// message is one of a topic, with keys.
func message(topic string, queue int, keys ...string) api.Msg {
	return api.Msg{Kind: api.Message, Topic: topic, Queue: queue, Keys: keys}
}

// finds fails, if other records have a key.
func (r *rig) finds(t *testing.T, topic, key string, want ...int) {
	t.Helper()
	if l, e := r.index.Find(topic, key, 0, math.MaxInt); e != api.OK || !slices.Equal(l, want) {
		t.Fatalf("Find of %q, %q: %v, %d, not %v", topic, key, l, e, want)
	}
}

func TestExample(t *testing.T) {
	r := fresh(t)
	r.put(t, sized(40))
	r.stays(t, api.OK)
	r.stands(t, 0, 0)
	r.has(t)
	ok(t, r.tape.Sync())
	r.stands(t, 0, 1)
	r.steps(t, 1)
	r.stands(t, 40, 0)
	r.has(t, r.all...)
	r.stays(t, api.OK)
	if n := r.queues.Next("a", 0); n != 1 {
		t.Errorf("Next: %d", n)
	}
}

func TestWhatAnEntryTells(t *testing.T) {
	for i, c := range []struct {
		m    api.Msg
		want entry.Place
	}{
		{api.Msg{Kind: 1, Topic: "a"}, entry.Place{At: 50, Long: 36}},
		{api.Msg{Kind: 1, Topic: "a", Body: "hello", Born: 30}, entry.Place{At: 50, Long: 41, Born: 30}},
		{api.Msg{Kind: 1, Topic: "a", Tag: "a", Born: 7}, entry.Place{At: 50, Long: 37, Hash: 97, Born: 7}},
		{api.Msg{Kind: 1, Topic: "a", Tag: "ab"}, entry.Place{At: 50, Long: 38, Hash: 97*31 + 98}},
		{api.Msg{Kind: 1, Topic: "a", Tag: "zzzzzzzzzzzzzzzz", Born: 1 << 40}, entry.Place{At: 50, Long: 52, Hash: hash("zzzzzzzzzzzzzzzz"), Born: 1 << 40}},
		{api.Msg{Kind: 1, Topic: "a", Keys: []string{"k", "ll"}, Retry: 4}, entry.Place{At: 50, Long: 43}},
		{api.Msg{Kind: 1, Topic: "a", Body: strings.Repeat("b", 200)}, entry.Place{At: 50, Long: 236}},
		{api.Msg{Kind: 3, Topic: "a", Tag: "b", Due: 9, Ref: 5, Born: 8, Retry: 1}, entry.Place{At: 50, Long: 37, Hash: 98, Born: 8}},
		{api.Msg{Kind: 3, Topic: "a", Due: 1 << 40, Ref: 1 << 40, Born: 0}, entry.Place{At: 50, Long: 36}},
	} {
		r := fresh(t)
		r.synced(t, sized(50), c.m)
		r.steps(t, 2)
		if p, e := r.queues.At("a", 0, 1); p != c.want || e != api.OK {
			t.Errorf("row %d: %+v, %d, not %+v", i, p, e, c.want)
		}
		for _, k := range c.m.Keys {
			r.finds(t, "a", k, 50)
		}
		if r.index.Len() != len(c.m.Keys) {
			t.Errorf("row %d: %d keys", i, r.index.Len())
		}
		r.has(t, r.all...)
	}
}

// TestEachKind: of messages and deliveries alone there are entries, but the cursor goes behind each record.
func TestEachKind(t *testing.T) {
	keys := []string{"k", "l"}
	for _, c := range []struct {
		m      api.Msg
		queues int
		keys   int
	}{
		{api.Msg{Kind: api.Message, Topic: "a", Tag: "x", Keys: keys, Body: "hi"}, 1, 2},
		{api.Msg{Kind: api.Scheduled, Topic: "a", Tag: "x", Keys: keys, Body: "hi", Due: 9}, 0, 0},
		{api.Msg{Kind: api.Scheduled, Topic: "%retry%g", Keys: keys, Due: 9, Ref: 5, Retry: 1}, 0, 0},
		{api.Msg{Kind: api.Delivery, Topic: "a", Tag: "x", Keys: keys, Body: "hi", Due: 9, Ref: 5}, 1, 2},
		{api.Msg{Kind: api.Cancel, Ref: 5, Born: 9}, 0, 0},
	} {
		r := fresh(t)
		r.synced(t, c.m)
		r.stands(t, 0, 1)
		r.steps(t, 1)
		r.stands(t, size(t, c.m), 0)
		if len(r.queues.All()) != c.queues || r.index.Len() != c.keys {
			t.Errorf("kind %d: %v, %d keys", c.m.Kind, r.queues.All(), r.index.Len())
		}
		r.has(t, r.all...)
		r.stays(t, api.OK)
	}
}

// TestKindsThatHaveNoEntriesAskNobody: so what is derived may be down, or full.
func TestKindsThatHaveNoEntriesAskNobody(t *testing.T) {
	r := fresh(t)
	r.synced(t, api.Msg{Kind: api.Scheduled, Topic: "a", Due: 9, Keys: []string{"k"}}, api.Msg{Kind: api.Cancel, Ref: 5}, sized(40))
	r.cache.Fuse(0)
	r.cache.Sync()
	r.steps(t, 2)
	r.stays(t, api.ErrDown)
	r.stands(t, r.all[2].id, 1)
}

// TestQueues: each queue has its own records, in the tape's order.
func TestQueues(t *testing.T) {
	r := fresh(t)
	topics := []string{"a", "ab", "b", "%retry%g", "%dead%g", "%retry%h", strings.Repeat("z", 16)}
	kinds := []int{api.Message, api.Delivery, api.Message, api.Scheduled, api.Cancel, api.Delivery}
	keys := []string{"k", "l", "K", "~", "!", "k1"}
	for i := range 400 {
		m := api.Msg{Kind: kinds[i*7%11%6], Born: i / 3}
		if m.Kind != api.Cancel {
			m.Topic, m.Queue = topics[i*3%7], i*5%13%3
			m.Tag, m.Body = []string{"", "x", "y-1"}[i%3], strings.Repeat("b", i%201)
			for j := range i % 4 {
				m.Keys = append(m.Keys, keys[(i+j)%6])
			}
		}
		r.put(t, m)
		if i%37 == 36 {
			ok(t, r.tape.Sync())
		}
	}
	ok(t, r.tape.Sync())
	for i := range r.all {
		r.stands(t, r.disp.Cursor(), len(r.all)-i)
		r.steps(t, 1)
		if i < 40 || i%50 == 49 {
			r.has(t, r.all[:i+1]...)
		}
	}
	r.stays(t, api.OK)
	want := map[cq.Queue][]int{}
	for _, v := range r.all {
		if v.m.Kind == api.Message || v.m.Kind == api.Delivery {
			q := cq.Queue{Topic: v.m.Topic, Queue: v.m.Queue}
			want[q] = append(want[q], v.id)
		}
	}
	if len(want) < 15 || len(r.queues.All()) != len(want) {
		t.Fatalf("%d queues, not %d", len(r.queues.All()), len(want))
	}
	for q, ids := range want {
		if r.queues.Least(q.Topic, q.Queue) != 0 || r.queues.Next(q.Topic, q.Queue) != len(ids) {
			t.Errorf("%v: up to %d, not %d", q, r.queues.Next(q.Topic, q.Queue), len(ids))
		}
		for at, id := range ids {
			if p, e := r.queues.At(q.Topic, q.Queue, at); p.At != id || e != api.OK {
				t.Errorf("%v, %d: %v, %d, not %d", q, at, p, e, id)
			}
		}
	}
}

// TestBornInNoOrder: the entries stand in the tape's order, not in that of their times.
func TestBornInNoOrder(t *testing.T) {
	r := fresh(t)
	for _, born := range []int{9, 3, 7, 3, 0, 1 << 40, 5} {
		r.synced(t, api.Msg{Kind: api.Message, Topic: "a", Keys: []string{"k"}, Born: born})
	}
	r.steps(t, 7)
	r.has(t, r.all...)
	r.finds(t, "a", "k", 234, 195, 156, 117, 78, 39, 0)
}

// TestKeys: each key of a record has an entry, in their order.
func TestKeys(t *testing.T) {
	r := fresh(t)
	r.synced(t, message("a", 0, "z", "a", "m"), message("b", 1, "a"), message("a", 2, "m", "z"))
	r.steps(t, 3)
	var l []int
	s, e := r.cache.All("x-links")
	ok(t, e)
	pieces, _ := entry.Cut(s)
	for _, piece := range pieces {
		k, _ := entry.GetLink(piece)
		l = append(l, k.Hash, k.At)
	}
	at, then := r.all[1].id, r.all[2].id
	if want := []int{hash("a#z"), 0, hash("a#a"), 0, hash("a#m"), 0, hash("b#a"), at, hash("a#m"), then, hash("a#z"), then}; !slices.Equal(l, want) {
		t.Errorf("%v, not %v", l, want)
	}
	r.finds(t, "a", "z", then, 0)
	r.finds(t, "a", "a", 0)
	r.finds(t, "a", "m", then, 0)
	r.finds(t, "b", "a", at)
	r.finds(t, "b", "z")
}

// TestKeysWithOneNumber: unlike keys with one number have an entry each.
func TestKeysWithOneNumber(t *testing.T) {
	r := fresh(t)
	r.synced(t, message("a", 0, "Aa", "BB"), message("a", 0, "BB"))
	if hash("a#Aa") != hash("a#BB") {
		t.Fatal("they have two")
	}
	r.steps(t, 2)
	r.finds(t, "a", "Aa", r.all[1].id, 0, 0)
	r.has(t, r.all...)
}

// TestTheGreatestRecord: the ends of what a record may have.
func TestTheGreatestRecord(t *testing.T) {
	r := fresh(t)
	z := strings.Repeat("~", 15)
	m := api.Msg{Kind: api.Delivery, Topic: "%retry%" + strings.Repeat("g", 8), Queue: 2, Tag: strings.Repeat("t", 16), Body: strings.Repeat("\xff", 200), Keys: []string{z + "1", z + "2", z + "3"}, Due: 1 << 40, Ref: 1 << 40, Born: 1 << 40, Retry: 4}
	r.synced(t, m, m)
	r.steps(t, 2)
	r.has(t, r.all...)
	r.finds(t, m.Topic, z+"2", r.all[1].id, 0)
}

// TestTheCursorIsBehindTheRecord: and so ahead of a filler, if there is one.
func TestTheCursorIsBehindTheRecord(t *testing.T) {
	r := fresh(t)
	r.synced(t, sized(236), sized(236), sized(236), sized(236), sized(50), sized(60)) // 944, 30 are left
	cursors := []int{236, 472, 708, 944, 994, 1084}
	for i, at := range cursors {
		r.steps(t, 1)
		r.stands(t, at, len(cursors)-1-i)
		r.has(t, r.all[:i+1]...)
	}
	if r.all[5].id != segment {
		t.Errorf("the last one lies at %d", r.all[5].id)
	}
	r.stays(t, api.OK)
	r.stands(t, 1084, 0)
}

// TestAFillerAtTheEnd: a filler is no record: behind it there is nothing to look at.
func TestAFillerAtTheEnd(t *testing.T) {
	s, fits := rec.Fill(segment - 40)
	if !fits {
		t.Fatal("no filler")
	}
	first, e := rec.Put(sums, sized(40))
	d := disk.New(1 << 20)
	ok(t, e, d.Create("tape-00000000"), d.Write("tape-00000000", 0, first+s), d.Sync("tape-00000000"))
	x, e := tape.Open(d)
	ok(t, e)
	r := &rig{main: d, cache: disk.New(1 << 20), tape: x}
	r.again(t)
	r.stands(t, 0, 1)
	r.steps(t, 1)
	r.stands(t, 40, 0)
	r.stays(t, api.OK)
	r.stands(t, 40, 0)
	r.synced(t, sized(50))
	r.stands(t, 40, 1)
	r.steps(t, 1)
	r.stands(t, segment+50, 0)
	r.has(t, item{0, sized(40)}, item{segment, sized(50)})
}

// TestJustWhatIsSynced: what lies behind the tape's Synced isn't looked at, and isn't left either.
func TestJustWhatIsSynced(t *testing.T) {
	r := fresh(t)
	for i := range 60 {
		r.synced(t, sized(40+i))
		r.put(t, message("a", 0, "k"), api.Msg{Kind: api.Cancel, Ref: 9}, message("b", 1))
		r.stands(t, r.disp.Cursor(), min(i, 1)*3+1)
		r.steps(t, min(i, 1)*3+1)
		r.stays(t, api.OK)
		if at := r.tape.Synced(); r.disp.Cursor() > at || r.disp.Left() != 0 {
			t.Fatalf("Cursor: %d, behind %d; Left: %d", r.disp.Cursor(), at, r.disp.Left())
		}
		r.has(t, r.all[:len(r.all)-3]...)
	}
	ok(t, r.tape.Sync())
	r.steps(t, 3)
	r.stays(t, api.OK)
	r.has(t, r.all...)
}

func TestAll(t *testing.T) {
	r := fresh(t)
	for n := range 20 {
		for i := range n {
			r.put(t, message([]string{"a", "b"}[i%2], i%3, "k"), api.Msg{Kind: api.Scheduled, Topic: "a", Due: 5})
		}
		if done, e := r.disp.All(); done != 0 || e != api.OK {
			t.Fatalf("All, nothing synced: %d, %d", done, e)
		}
		ok(t, r.tape.Sync())
		r.stands(t, r.disp.Cursor(), 2*n)
		if done, e := r.disp.All(); done != 2*n || e != api.OK {
			t.Fatalf("All: %d, %d, not %d", done, e, 2*n)
		}
		r.stands(t, r.tape.End(), 0)
		r.has(t, r.all...)
	}
}

// TestOneStepIsOneRecord: All does what steps do.
func TestOneStepIsOneRecord(t *testing.T) {
	l := []api.Msg{sized(40), message("b", 2, "k", "l", "m"), {Kind: api.Cancel, Ref: 1}, sized(236), message("a", 1, "k")}
	for ahead := range len(l) + 1 {
		r := fresh(t)
		r.synced(t, l...)
		r.steps(t, ahead)
		r.has(t, r.all[:ahead]...)
		if n, e := r.disp.All(); n != len(l)-ahead || e != api.OK {
			t.Errorf("All behind %d: %d, %d", ahead, n, e)
		}
		r.has(t, r.all...)
	}
}

// dropped is a rig of four segments of messages, of which the dispatcher did so many steps before the first segments went.
func dropped(t *testing.T, steps, drops int) *rig {
	t.Helper()
	r := fresh(t)
	for i := range 18 { // four a segment, and 80 bytes of a filler
		m := sized(236)
		m.Born, m.Queue = i, i%2
		r.put(t, m)
	}
	ok(t, r.tape.Sync())
	r.steps(t, steps)
	for range drops {
		_, e := r.tape.Drop()
		ok(t, e)
	}
	return r
}

// TestATapeWhoseBeginIsDropped: if the tape begins behind the cursor, that goes there with the next step.
func TestATapeWhoseBeginIsDropped(t *testing.T) {
	for steps := range 19 {
		for drops := range 5 {
			r := dropped(t, steps, drops)
			done, next := r.all[:steps], r.all[max(steps, 4*drops):]
			cursor := 0
			if steps > 0 {
				cursor = r.all[steps-1].id + 236
			}
			r.stands(t, cursor, len(next))
			r.has(t, done...)
			for i, v := range next {
				r.steps(t, 1)
				r.stands(t, v.id+236, len(next)-1-i)
			}
			r.stays(t, api.OK)
			r.has(t, slices.Concat(done, next)...)
		}
	}
}

// TestNothingIsLeftOfADroppedTape: the cursor goes where the tape begins, though no record is synced there.
func TestNothingIsLeftOfADroppedTape(t *testing.T) {
	r := fresh(t)
	r.synced(t, sized(200))
	r.put(t, sized(200), sized(200), sized(200), sized(200), sized(100))
	_, e := r.tape.Drop()
	ok(t, e)
	if r.tape.Synced() != segment || r.all[5].id != segment {
		t.Fatalf("Synced: %d; %v", r.tape.Synced(), r.all)
	}
	r.stands(t, 0, 0)
	r.stays(t, api.OK)
	r.stands(t, segment, 0)
	r.has(t)
	ok(t, r.tape.Sync())
	r.steps(t, 1)
	r.has(t, r.all[5])
}

// TestATapeThatWasDroppedAhead: the cursor is where the tape begins.
func TestATapeThatWasDroppedAhead(t *testing.T) {
	for drops := range 5 {
		r := dropped(t, 0, drops)
		r.again(t)
		r.stands(t, drops*segment, len(r.all)-4*drops)
		if n, e := r.disp.All(); n != len(r.all)-4*drops || e != api.OK {
			t.Errorf("All: %d, %d", n, e)
		}
		r.has(t, r.all[4*drops:]...)
	}
}

// TestMadeAnew: over the same tape, behind a crash, with queues and an index that are made anew, it leads to the same.
func TestMadeAnew(t *testing.T) {
	r := fresh(t)
	for i := range 30 {
		r.synced(t, message("a", i%3, "k", fmt.Sprint(i)))
	}
	r.put(t, sized(50), sized(60))
	r.steps(t, 17)
	r.main.Crash(disk.Plan{})
	r.cache.Crash(disk.Plan{})
	r.all = r.all[:30]
	var e api.Errno
	r.tape, e = tape.Open(r.main)
	ok(t, e)
	for range 2 {
		r.again(t)
		r.stands(t, 0, 30)
		if n, e := r.disp.All(); n != 30 || e != api.OK {
			t.Fatalf("All: %d, %d", n, e)
		}
		r.has(t, r.all...)
	}
}

// TestBase: where a queue begins elsewhere, its entries stand from there on.
func TestBase(t *testing.T) {
	r := fresh(t)
	ok(t, r.queues.Base("a", 0, 700), r.queues.Base("b", 1, 5))
	r.synced(t, message("a", 0), message("a", 1), message("a", 0), message("b", 1))
	r.steps(t, 4)
	want := []cq.Queue{{Topic: "a", Queue: 0, Least: 700, Next: 702}, {Topic: "a", Queue: 1, Least: 0, Next: 1}, {Topic: "b", Queue: 1, Least: 5, Next: 6}}
	if l := r.queues.All(); !slices.Equal(l, want) {
		t.Errorf("%v, not %v", l, want)
	}
	if p, e := r.queues.At("a", 0, 701); p != r.all[2].place(t) || e != api.OK {
		t.Errorf("%v, %d", p, e)
	}
}

// TestTheTapeIsOnlyRead: nothing is written to the disk of the tape, and nothing of what is derived is synced.
func TestTheTapeIsOnlyRead(t *testing.T) {
	r := fresh(t)
	r.synced(t, message("a", 0, "k", "l"), message("b", 1), api.Msg{Kind: api.Cancel, Ref: 3})
	r.put(t, sized(70))
	waits := r.main.Waits()
	r.main.Fuse(0)
	r.steps(t, 3)
	r.stays(t, api.OK)
	if r.main.Down() || r.main.Waits() != waits || r.cache.Waits() != 1+2+4 { // of the index's noughts, two entries of queues, and two writes for each key
		t.Errorf("down: %t; %d wait, and %d", r.main.Down(), r.main.Waits(), r.cache.Waits())
	}
}

// TestItsTape: a dispatcher's tape is embedded: it answers as that.
func TestItsTape(t *testing.T) {
	r := fresh(t)
	id, e := r.disp.Append(sized(40))
	ok(t, e, r.disp.Sync())
	if m, e := r.disp.Read(id); e != api.OK || !rec.Same(m, sized(40)) || r.disp.Tape != r.tape || r.tape.Synced() != 40 {
		t.Errorf("Read: %v, %d", m, e)
	}
	r.steps(t, 1)
	r.has(t, item{0, sized(40)})
}

func TestNoArguments(t *testing.T) {
	r := fresh(t)
	r.synced(t, sized(40))
	for i, c := range []struct {
		t *tape.Tape
		q *cq.Queues
		x *keyx.Index
	}{{nil, r.queues, r.index}, {r.tape, nil, r.index}, {r.tape, r.queues, nil}, {nil, nil, r.index}, {nil, nil, nil}} {
		if d, e := disp.New(c.t, c.q, c.x); d != nil || e != api.ErrArg {
			t.Errorf("row %d: %v, %d", i, d, e)
		}
	}
	r.has(t)
	r.stands(t, 0, 1)
}

func TestNoDispatcher(t *testing.T) {
	var d *disp.Dispatcher
	if did, e := d.Step(); did || e != api.ErrArg {
		t.Errorf("Step: %t, %d", did, e)
	}
	if n, e := d.All(); n != 0 || e != api.ErrArg {
		t.Errorf("All: %d, %d", n, e)
	}
	if d.Cursor() != 0 || d.Left() != 0 {
		t.Errorf("Cursor: %d; Left: %d", d.Cursor(), d.Left())
	}
}

// TestWhatNewDidNotMake: nothing panics.
func TestWhatNewDidNotMake(t *testing.T) {
	r := fresh(t)
	r.synced(t, message("a", 0, "k"))
	for i, d := range []*disp.Dispatcher{{}, {Tape: &tape.Tape{}}, {Tape: r.tape}} { // they have nothing to write to
		if did, e := d.Step(); did || e != api.ErrArg {
			t.Errorf("row %d: Step: %t, %d", i, did, e)
		}
		if n, e := d.All(); n != 0 || e != api.ErrArg || d.Cursor() != 0 || d.Left() != i/2 {
			t.Errorf("row %d: All: %d, %d; Cursor: %d; Left: %d", i, n, e, d.Cursor(), d.Left())
		}
	}
	for i, c := range []struct {
		q *cq.Queues
		x *keyx.Index
	}{{&cq.Queues{}, &keyx.Index{}}, {&cq.Queues{}, r.index}, {r.queues, &keyx.Index{}}} {
		d, e := disp.New(r.tape, c.q, c.x)
		ok(t, e)
		if did, e := d.Step(); did || e == api.OK || d.Cursor() != 0 || d.Left() != 1 {
			t.Errorf("row %d: Step: %t, %d", i, did, e)
		}
	}
	r.has(t)
}
