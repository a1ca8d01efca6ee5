package deq_test

import (
	"maps"
	"math"
	"slices"
	"strings"
	"testing"

	"reveille/api"
	"reveille/crc"
	"reveille/deq"
	"reveille/disk"
	"reveille/enq"
	"reveille/pend"
	"reveille/rec"
	"reveille/tape"
	"reveille/tlog"
)

// All tests of this package hold promise P20.1: all are what the chapter says, and no record is delivered twice, none ahead of when it is due, none that was cancelled.

const (
	segment = 1024
	least   = 36      // bytes of a record of topic "a"
	top     = 1 << 40 // the greatest time
)

var sums = crc.New()

// item is a record, and its number.
type item struct {
	id int
	m  api.Msg
}

// rig is a dequeuer, all that it reads, asks or writes to, and all records that were ever put.
type rig struct {
	main, cache *disk.Disk
	tape        *tape.Tape
	set         *pend.Set
	timers      *tlog.Log
	deq         *deq.Dequeuer
	all         []item
}

// ok fails, if a call wasn't told OK.
func ok(t *testing.T, l ...api.Errno) {
	t.Helper()
	for i, e := range l {
		if e != api.OK {
			t.Fatalf("call %d: %d, not OK", i, e)
		}
	}
}

// fresh is a rig without records, whose timer log's hand stands somewhere.
func fresh(t *testing.T, hand int) *rig {
	t.Helper()
	r := &rig{main: disk.New(1 << 20), cache: disk.New(1 << 16), set: pend.New()}
	var e api.Errno
	r.tape, e = tape.Open(r.main)
	ok(t, e)
	r.again(t, hand)
	return r
}

// again makes the timer log anew, and the dequeuer.
func (r *rig) again(t *testing.T, hand int) {
	t.Helper()
	var e [2]api.Errno
	r.timers, e[0] = tlog.New(r.cache, hand)
	r.deq, e[1] = deq.New(r.tape, r.set, r.timers)
	ok(t, e[:]...)
}

// put appends records, and notes them; the first one's number is told.
func (r *rig) put(t *testing.T, l ...api.Msg) int {
	t.Helper()
	n := len(r.all)
	for _, m := range l {
		id, e := r.tape.Append(m)
		ok(t, e)
		r.set.Note(id, m)
		r.all = append(r.all, item{id, m})
	}
	return r.all[n].id
}

// timed is put, and puts the records into the timer log.
func (r *rig) timed(t *testing.T, l ...api.Msg) int {
	t.Helper()
	id := r.put(t, l...)
	for _, v := range r.all[len(r.all)-len(l):] {
		ok(t, r.timers.Put(v.m.Due, v.id))
	}
	return id
}

// added is put, and adds the records.
func (r *rig) added(t *testing.T, l ...api.Msg) int {
	t.Helper()
	id := r.put(t, l...)
	for _, v := range r.all[len(r.all)-len(l):] {
		r.deq.Add(v.id)
	}
	return id
}

// seen is all that a step may change.
type seen struct {
	end, synced, hand, marks int
	ids, due, pending        []int
	files                    map[string]string
}

func (r *rig) look(t *testing.T) seen {
	t.Helper()
	s := seen{end: r.tape.End(), synced: r.tape.Synced(), hand: r.timers.Hand(), marks: r.timers.Len(), ids: r.tape.Ids(0), due: r.deq.Due(), pending: r.set.Pending(), files: map[string]string{}}
	for _, d := range []*disk.Disk{r.main, r.cache} {
		for _, f := range d.List("") {
			text, e := d.All(f)
			if e != api.OK && !d.Down() {
				t.Fatalf("All of %q: %d", f, e)
			}
			s.files[f] = text
		}
	}
	return s
}

// same fails, if anything is another thing than it was.
func (r *rig) same(t *testing.T, was seen) {
	t.Helper()
	is := r.look(t)
	if is.end != was.end || is.synced != was.synced || is.hand != was.hand || is.marks != was.marks {
		t.Fatalf("end %d, synced %d, hand %d, %d marks, not %d, %d, %d, %d", is.end, is.synced, is.hand, is.marks, was.end, was.synced, was.hand, was.marks)
	}
	if !slices.Equal(is.ids, was.ids) || !slices.Equal(is.due, was.due) || !slices.Equal(is.pending, was.pending) {
		t.Fatalf("%v on the tape, %v due, %v pending, not %v, %v, %v", is.ids, is.due, is.pending, was.ids, was.due, was.pending)
	}
	if !maps.Equal(is.files, was.files) {
		t.Fatalf("%q, not %q", is.files, was.files)
	}
}

// stays fails, if a step does anything, or is told another error.
func (r *rig) stays(t *testing.T, now int, want api.Errno) {
	t.Helper()
	was := r.look(t)
	if did, e := r.deq.Step(now); did || e != want {
		t.Fatalf("Step: %t, %d, not %d", did, e, want)
	}
	r.same(t, was)
}

// does fails, if a step does nothing.
func (r *rig) does(t *testing.T, now int) {
	t.Helper()
	if did, e := r.deq.Step(now); !did || e != api.OK {
		t.Fatalf("Step: %t, %d", did, e)
	}
}

// turns is a step that lets the hand go on by one second, makes the list these, and appends nothing.
func (r *rig) turns(t *testing.T, now int, due ...int) {
	t.Helper()
	was := r.look(t)
	r.does(t, now)
	is := r.look(t)
	if is.hand != was.hand+1 || !slices.Equal(is.due, due) || len(was.due) != 0 {
		t.Fatalf("hand %d, %v due, not %d, %v", is.hand, is.due, was.hand+1, due)
	}
	was.hand, was.due, was.marks, was.files = is.hand, is.due, is.marks, is.files // of the files the timer log's may be others
	r.same(t, was)
}

// drops is a step that takes the list's first one off, and does nothing else.
func (r *rig) drops(t *testing.T, now int) {
	t.Helper()
	was := r.look(t)
	r.does(t, now)
	was.due = was.due[1:]
	r.same(t, was)
}

// brings is a step that appends the delivery of the list's first one, a record that was put.
func (r *rig) brings(t *testing.T, now int) {
	t.Helper()
	was := r.look(t)
	id := was.due[0]
	i := slices.IndexFunc(r.all, func(v item) bool { return v.id == id })
	want := r.all[i].m
	want.Kind, want.Ref, want.Born = api.Delivery, id, now
	cost := r.tape.Cost(want)
	r.does(t, now)
	last := r.tape.Ids(was.end)
	if len(last) != 1 || r.tape.End() != was.end+cost {
		t.Fatalf("behind %d: %v, up to %d", was.end, last, r.tape.End())
	}
	if m, e := r.tape.Read(last[0]); e != api.OK || !rec.Same(m, want) {
		t.Fatalf("Read: %+v, %d, not %+v", m, e, want)
	}
	if r.set.State(id) != pend.Came {
		t.Fatalf("%d is %d", id, r.set.State(id))
	}
	r.all = append(r.all, item{last[0], want})
	is := r.look(t)
	was.end, was.files = is.end, is.files
	was.ids, was.due = append(was.ids, last[0]), was.due[1:]
	was.pending = slices.DeleteFunc(was.pending, func(n int) bool { return n == id })
	r.same(t, was)
}

// dueAre fails, if the list is another one.
func (r *rig) dueAre(t *testing.T, want ...int) {
	t.Helper()
	if l := r.deq.Due(); !slices.Equal(l, want) {
		t.Fatalf("Due: %v, not %v", l, want)
	}
}

// busy fails, if it is otherwise.
func (r *rig) busy(t *testing.T, now int, want bool) {
	t.Helper()
	if r.deq.Busy(now) != want {
		t.Fatalf("Busy(%d) isn't %t", now, want)
	}
}

// settles steps as long as it is busy.
func (r *rig) settles(t *testing.T, now int) {
	t.Helper()
	for range 10000 {
		if !r.deq.Busy(now) {
			r.stays(t, now, api.OK)
			return
		}
		r.does(t, now)
	}
	t.Fatal("it is still busy")
}

// deliveries is all deliveries that are on a tape, by the record that they are of.
func deliveries(t *testing.T, x *tape.Tape) map[int][]api.Msg {
	t.Helper()
	l := map[int][]api.Msg{}
	for _, id := range x.Ids(0) {
		m, e := x.Read(id)
		ok(t, e)
		if m.Kind == api.Delivery {
			l[m.Ref] = append(l[m.Ref], m)
		}
	}
	return l
}

// due is a scheduled record.
func due(at int) api.Msg { return api.Msg{Kind: api.Scheduled, Topic: "a", Due: at} }

// dues are several.
func dues(at ...int) []api.Msg {
	var l []api.Msg
	for _, n := range at {
		l = append(l, due(n))
	}
	return l
}

// scheduled is a scheduled one of so many bytes, from least to 236.
func scheduled(n, at int) api.Msg {
	return api.Msg{Kind: api.Scheduled, Topic: "a", Due: at, Body: strings.Repeat("b", n-least)}
}

// message is a message of so many bytes.
func message(n int) api.Msg {
	return api.Msg{Kind: api.Message, Topic: "a", Body: strings.Repeat("b", n-least)}
}

// cancels is a cancel of a record.
func cancels(id int) api.Msg { return api.Msg{Kind: api.Cancel, Ref: id} }

func TestExample(t *testing.T) {
	r := fresh(t, 5)
	r.put(t, due(4))
	r.stays(t, 5, api.OK)
	r.deq.Add(0)
	r.dueAre(t, 0)
	r.brings(t, 5)
	r.dueAre(t)
	m, e := r.tape.Read(36)
	if e != api.OK || !rec.Same(m, api.Msg{Kind: api.Delivery, Topic: "a", Due: 4, Ref: 0, Born: 5}) {
		t.Errorf("Read: %+v, %d", m, e)
	}
	r.stays(t, 5, api.OK)
}

// TestASecond: who is due in the timer log comes when the hand is there, and not ahead of that.
func TestASecond(t *testing.T) {
	r := fresh(t, 5)
	r.timed(t, due(8))
	r.busy(t, 5, false)
	r.stays(t, 5, api.OK)
	r.turns(t, 6)
	r.stays(t, 6, api.OK)
	r.busy(t, 8, true)
	r.turns(t, 8)
	r.turns(t, 8, 0)
	r.busy(t, 8, true)
	r.brings(t, 8)
	r.busy(t, 8, false)
	r.stays(t, 8, api.OK)
	r.turns(t, 9)
}

// TestOneThingAStep: while the list has one the hand doesn't go on; the list's first one is what a step is about.
func TestOneThingAStep(t *testing.T) {
	r := fresh(t, 5)
	r.timed(t, dues(6, 6, 6, 7, 6)...)
	r.put(t, cancels(36))
	r.added(t, dues(3, 2)...)
	l := []int{r.all[6].id, r.all[7].id}
	r.dueAre(t, l...)
	r.brings(t, 9)
	r.dueAre(t, l[1])
	r.brings(t, 9)
	r.turns(t, 9, 0, 36, 72, 144)
	r.brings(t, 9)
	r.drops(t, 9)
	r.dueAre(t, 72, 144)
	r.brings(t, 9)
	r.brings(t, 9)
	r.turns(t, 9, 108)
	r.brings(t, 9)
	r.turns(t, 9)
	r.turns(t, 9)
	r.stays(t, 9, api.OK)
}

// TestTheHand goes on by one second a step, up to now, and not back.
func TestTheHand(t *testing.T) {
	for _, hand := range []int{0, 1, 5, 15, 16, 1000, top - 2, top} {
		r := fresh(t, hand)
		for _, now := range []int{hand, hand - 1, 0, -1, math.MinInt} {
			r.busy(t, now, false)
			r.stays(t, now, api.OK)
		}
		for _, now := range []int{hand + 1, hand + 2, hand + 20, math.MaxInt} {
			for r.timers.Hand() < min(now, hand+50) {
				r.busy(t, now, true)
				r.turns(t, now)
			}
			if now < math.MaxInt {
				r.busy(t, now, false)
				r.stays(t, now, api.OK)
			}
		}
	}
}

// TestInOrder: in the order in which it heard of them they come.
func TestInOrder(t *testing.T) {
	r := fresh(t, 5)
	r.timed(t, dues(22, 6, 38, 22, 7, 6, 22)...) // in one slot, but for the seventh second's
	want := [][]int{{36, 180}, {144}, {0, 108, 216}, {72}}
	var came []int
	for now := 6; now < 50; now++ {
		r.does(t, now)
		l := r.deq.Due()
		came = append(came, l...)
		if i := slices.Index([]int{6, 7, 22, 38}, now); i < 0 && len(l) > 0 || i >= 0 && !slices.Equal(l, want[i]) {
			t.Fatalf("%v are due at %d", l, now)
		}
		for range l {
			r.brings(t, now)
		}
		r.stays(t, now, api.OK)
	}
	var refs []int
	for _, v := range r.all[7:] {
		refs = append(refs, v.m.Ref)
	}
	if !slices.Equal(refs, slices.Concat(want...)) || !slices.Equal(refs, came) {
		t.Errorf("%v came, not %v", refs, want)
	}
}

// TestAdd: at the end of the list they stand, in their order.
func TestAdd(t *testing.T) {
	r := fresh(t, 5)
	r.timed(t, dues(6, 6)...)
	r.put(t, dues(1, 2, 3, 4)...)
	r.deq.Add()
	r.dueAre(t)
	r.busy(t, 5, false)
	r.stays(t, 5, api.OK)
	r.turns(t, 6, 0, 36)
	r.deq.Add(180)
	r.dueAre(t, 0, 36, 180)
	r.deq.Add(72, 144, 108)
	r.dueAre(t, 0, 36, 180, 72, 144, 108)
	r.brings(t, 6)
	r.deq.Add(0, 72)
	r.deq.Add()
	r.dueAre(t, 36, 180, 72, 144, 108, 0, 72)
	for range 5 {
		r.brings(t, 6)
	}
	r.drops(t, 6)
	r.drops(t, 6)
	r.stays(t, 6, api.OK)
}

// TestWhatIsAddedIsDue: who adds it says so; it isn't asked once more when it is due.
func TestWhatIsAddedIsDue(t *testing.T) {
	r := fresh(t, 5)
	r.timed(t, dues(9, 500)...)
	r.deq.Add(36, 0)
	r.brings(t, 5)
	r.brings(t, 5)
	r.stays(t, 5, api.OK)
	for range 3 {
		r.turns(t, 9)
	}
	r.turns(t, 9, 0) // the timer log tells it, too
	r.drops(t, 9)
}

// TestLists: what is handed in, and what is told, is its asker's own.
func TestLists(t *testing.T) {
	r := fresh(t, 5)
	r.put(t, dues(1, 2, 3, 4)...)
	l := append(make([]int, 0, 10), 36, 0)
	r.deq.Add(l...)
	l[0] = 7
	r.dueAre(t, 36, 0)
	r.deq.Add(72)
	if l = l[:3]; !slices.Equal(l, []int{7, 0, 0}) {
		t.Errorf("%v", l)
	}
	told := r.deq.Due()
	told[0] = 7
	told = append(told[:1], 8, 9)
	r.dueAre(t, 36, 0, 72)
	told = r.deq.Due()
	r.brings(t, 5)
	r.deq.Add(108, 5)
	if !slices.Equal(told, []int{36, 0, 72}) {
		t.Errorf("%v", told)
	}
	r.dueAre(t, 0, 72, 108, 5)
}

// TestBusy: of a list that isn't empty at all times; of an empty one, if the hand is below now.
func TestBusy(t *testing.T) {
	for _, hand := range []int{0, 5, top} {
		r := fresh(t, hand)
		nows := []int{math.MinInt, -1, 0, hand - 1, hand, hand + 1, hand + 17, math.MaxInt}
		for _, now := range nows {
			r.busy(t, now, now > hand)
		}
		r.deq.Add(999) // though it is none
		for _, now := range nows {
			r.busy(t, now, true)
		}
		r.drops(t, hand)
		for _, now := range nows {
			r.busy(t, now, now > hand)
		}
	}
}

// TestWhatIsntPending is taken off, whatever it is; nothing is appended.
func TestWhatIsntPending(t *testing.T) {
	for i, c := range []struct {
		notes []int // the kinds that are noted of it
		comes bool
	}{
		{nil, false}, {[]int{api.Scheduled}, true}, {[]int{api.Message}, false}, {[]int{api.Delivery}, false}, {[]int{api.Cancel, api.Scheduled}, true},
		{[]int{api.Scheduled, api.Delivery}, false}, {[]int{api.Scheduled, api.Cancel}, false}, {[]int{api.Scheduled, api.Cancel, api.Delivery}, false},
		{[]int{api.Scheduled, api.Delivery, api.Cancel}, false}, {[]int{api.Scheduled, api.Cancel, api.Scheduled}, false}, {[]int{api.Scheduled, api.Scheduled}, true},
	} {
		r := fresh(t, 5)
		r.put(t, message(50), due(4), due(3))
		r.set = pend.New()
		r.again(t, 5)
		r.set.Note(86, due(3))
		for _, kind := range c.notes {
			if kind == api.Scheduled {
				r.set.Note(50, due(4))
			} else {
				r.set.Note(1000, api.Msg{Kind: kind, Ref: 50})
			}
		}
		r.deq.Add(50, 86, 50, 0)
		if c.comes {
			r.brings(t, 5)
		} else {
			r.drops(t, 5)
		}
		r.brings(t, 5)
		r.drops(t, 5)
		r.drops(t, 5)
		r.stays(t, 5, api.OK)
		if n := len(deliveries(t, r.tape)[50]); n != map[bool]int{true: 1}[c.comes] {
			t.Errorf("row %d: %d deliveries", i, n)
		}
	}
}

// TestNoSuchNumber: where there is no record, or none that was noted, it is taken off.
func TestNoSuchNumber(t *testing.T) {
	r := fresh(t, 5)
	r.put(t, message(50), cancels(7), due(4))
	l := []int{0, 50, 1, -1, r.tape.End(), 1 << 30, math.MinInt, math.MaxInt}
	r.deq.Add(l...)
	for range l {
		r.drops(t, 5)
	}
	r.stays(t, 5, api.OK)
}

// TestCancelledMeanwhile: what is cancelled while it is in the timer log, or in the list, never comes, be the cancel synced or not.
func TestCancelledMeanwhile(t *testing.T) {
	for steps := range 5 { // with the third one they are in the list, with the fourth one the first of them comes
		for _, syncs := range []bool{false, true} {
			r := fresh(t, 5)
			r.timed(t, dues(8, 8, 8)...)
			for range steps {
				r.does(t, 8)
			}
			r.dueAre(t, [][]int{{}, {}, {}, {0, 36, 72}, {36, 72}}[steps]...)
			r.put(t, cancels(36))
			if syncs {
				ok(t, r.tape.Sync())
			}
			r.settles(t, 30)
			l := deliveries(t, r.tape)
			if len(l) != 2 || len(l[0]) != 1 || len(l[72]) != 1 || r.set.State(36) != pend.Gone {
				t.Errorf("cancelled behind %d steps: %v", steps, l)
			}
		}
	}
}

// TestCancelledTooLate: what came already stays.
func TestCancelledTooLate(t *testing.T) {
	r := fresh(t, 5)
	r.added(t, due(4))
	r.brings(t, 5)
	r.put(t, cancels(0))
	if r.set.State(0) != pend.Came || len(deliveries(t, r.tape)[0]) != 1 {
		t.Errorf("%d, %v", r.set.State(0), deliveries(t, r.tape))
	}
}

// TestDeliveredOnce: however often it stands in the list, or in the timer log, and though somebody else delivers it.
func TestDeliveredOnce(t *testing.T) {
	r := fresh(t, 5)
	r.timed(t, dues(6, 7, 8)...)
	ok(t, r.timers.Put(6, 0), r.timers.Put(7, 0), r.timers.Put(22, 0), r.timers.Put(7, 36))
	r.deq.Add(0, 36, 0)
	r.brings(t, 9)
	r.deq.Add(0)
	r.brings(t, 9)
	r.drops(t, 9)
	r.drops(t, 9)
	r.turns(t, 6, 0, 0)
	r.deq.Add(36)
	for range 3 {
		r.drops(t, 6)
	}
	r.turns(t, 7, 36, 0, 36)
	for range 3 {
		r.drops(t, 7)
	}
	r.put(t, api.Msg{Kind: api.Delivery, Topic: "a", Ref: 72})
	r.turns(t, 8, 72)
	r.drops(t, 8)
	r.settles(t, 40)
	for id, l := range deliveries(t, r.tape) {
		if len(l) != 1 {
			t.Errorf("of %d: %v", id, l)
		}
	}
}

// TestWhatWasTrimmed can't be read any more: it is taken off, be it still noted or not.
func TestWhatWasTrimmed(t *testing.T) {
	for _, trims := range []bool{false, true} {
		r := fresh(t, 5)
		for range 9 { // four a segment
			r.added(t, scheduled(236, 4))
		}
		r.timed(t, scheduled(236, 8))
		_, e := r.tape.Drop()
		ok(t, e)
		if _, e := r.tape.Read(236); e != api.ErrTrim {
			t.Fatal(e)
		}
		if trims {
			r.set.Trim(segment)
		}
		for range 4 {
			r.drops(t, 5)
		}
		for range 5 {
			r.brings(t, 5)
		}
		r.deq.Add(0)
		r.drops(t, 5)
		r.turns(t, 6)
		r.turns(t, 7)
		r.turns(t, 8, r.all[9].id)
		r.brings(t, 8)
		r.stays(t, 8, api.OK)
	}
}

// TestNoRecordThere: what was noted, though no record that can be read lies there, is taken off.
func TestNoRecordThere(t *testing.T) {
	r := fresh(t, 5)
	r.put(t, scheduled(236, 1), scheduled(236, 2), scheduled(236, 3), scheduled(236, 4), scheduled(81, 4)) // 944; a filler of 80
	l := []int{1, 944, segment + 81, 1 << 30, math.MaxInt}
	for _, id := range l {
		r.set.Note(id, due(4))
	}
	r.deq.Add(l...)
	for range l {
		r.drops(t, 5)
	}
	ok(t, r.main.Write("tape-00000000", 240, "spoilt"))
	r.deq.Add(0, 236, 472)
	r.brings(t, 5)
	r.drops(t, 5)
	r.brings(t, 5)
	r.stays(t, 5, api.OK)
}

// TestWhereItStands: what the delivery is like is what stands on the tape, whatever was noted.
func TestWhereItStands(t *testing.T) {
	r := fresh(t, 5)
	m := api.Msg{Kind: api.Message, Topic: "b", Queue: 2, Tag: "x", Retry: 3, Born: 2}
	id, e := r.tape.Append(m)
	ok(t, e)
	r.all = append(r.all, item{id, m})
	r.set.Note(id, due(4))
	r.deq.Add(id)
	r.brings(t, 5)
}

// TestAllThatARecordMayHave: all of it the delivery has, too, but its kind, its Ref, and when it was born.
func TestAllThatARecordMayHave(t *testing.T) {
	z := strings.Repeat("~", 15)
	r := fresh(t, 100)
	for _, at := range []int{0, 99, 100} {
		r.added(t,
			api.Msg{Kind: api.Scheduled, Topic: "%retry%g", Due: at, Ref: 5, Retry: 1, Born: 98},
			api.Msg{Kind: api.Scheduled, Topic: "%retry%g", Due: at, Ref: 0, Retry: 4, Born: top, Queue: 2},
			api.Msg{Kind: api.Scheduled, Topic: "b", Due: at, Ref: top, Tag: "x", Keys: []string{"k"}},
			api.Msg{Kind: api.Scheduled, Topic: "%dead%" + strings.Repeat("g", 8), Queue: 2, Due: at, Tag: strings.Repeat("t", 16), Body: strings.Repeat("\xff", 200), Keys: []string{z + "1", z + "2", z + "3"}, Ref: top, Born: top, Retry: 4},
		)
	}
	for now := range 12 {
		r.brings(t, []int{100, 100, 101, top - 1, top}[now%5])
	}
	r.stays(t, 100, api.OK)
}

// TestDelivered: of a record of each kind, with its keys its own.
func TestDelivered(t *testing.T) {
	for _, m := range []api.Msg{
		{},
		{Kind: api.Scheduled, Topic: "a", Due: 9, Born: 3},
		{Kind: api.Scheduled, Queue: 2, Due: 9, Retry: 4, Ref: 77, Born: 3, Topic: "a", Tag: "x", Body: "hi", Keys: []string{"k", "l", "m"}},
		{Kind: api.Message, Topic: "a", Keys: []string{"k"}},
		{Kind: api.Delivery, Topic: "a", Ref: 3},
		{Kind: api.Cancel, Ref: 3},
		{Kind: api.Filler, Body: "\x00\x00\x00"},
		{Kind: -7, Queue: -1, Due: math.MaxInt, Retry: 99, Born: -1, Topic: "\x00", Tag: " ", Body: strings.Repeat("b", 999), Keys: make([]string, 9)},
	} {
		for _, id := range []int{0, 1, 36, top, -1, math.MaxInt} {
			for _, now := range []int{0, 5, top, -1, math.MinInt} {
				keys := slices.Clone(m.Keys)
				x := deq.Delivered(id, m, now)
				want := api.Msg{Kind: api.Delivery, Queue: m.Queue, Due: m.Due, Retry: m.Retry, Ref: id, Born: now, Topic: m.Topic, Tag: m.Tag, Body: m.Body, Keys: m.Keys}
				if !rec.Same(x, want) {
					t.Fatalf("Delivered(%d, %+v, %d): %+v", id, m, now, x)
				}
				for i := range x.Keys {
					x.Keys[i] = "other"
				}
				_ = append(x.Keys, "more")
				if !slices.Equal(m.Keys, keys) {
					t.Fatalf("%v, not %v", m.Keys, keys)
				}
			}
		}
	}
	keys := append(make([]string, 0, 8), "k")
	x := deq.Delivered(0, api.Msg{Kind: api.Scheduled, Topic: "a", Keys: keys}, 5)
	_ = append(x.Keys, "l")
	if l := keys[:2]; l[1] != "" {
		t.Errorf("%q was written into", l)
	}
}

// TestADeliveryIsRight, if the record was, and so are its number and the time.
func TestADeliveryIsRight(t *testing.T) {
	m := api.Msg{Kind: api.Scheduled, Queue: 2, Due: top, Retry: 4, Ref: 77, Born: 3, Topic: "%dead%g", Tag: "x", Body: "hi", Keys: []string{"k", "l", "m"}}
	for _, c := range []struct {
		id, now int
		right   bool
	}{{0, 0, true}, {top, top, true}, {-1, 0, false}, {0, -1, false}, {top + 1, 0, false}, {0, top + 1, false}} {
		if rec.Right(deq.Delivered(c.id, m, c.now)) != c.right {
			t.Errorf("%d, %d: not %t", c.id, c.now, c.right)
		}
	}
}

// TestBornNow: at the time that is told, also if it was due long ago.
func TestBornNow(t *testing.T) {
	r := fresh(t, 5)
	r.timed(t, dues(6, 7)...)
	r.turns(t, 6, 0)
	r.brings(t, 400)
	r.turns(t, 401, 36)
	r.brings(t, 402)
	r.added(t, due(0))
	r.brings(t, top)
}

// TestNoTime: with a time at which no record can be born the list stays; what isn't pending goes, whatever the time is.
func TestNoTime(t *testing.T) {
	for _, now := range []int{-1, top + 1, math.MinInt, math.MaxInt} {
		r := fresh(t, 5)
		r.added(t, dues(4, 3)...)
		r.put(t, cancels(0))
		r.drops(t, now)
		for range 3 {
			r.stays(t, now, api.ErrArg)
			r.dueAre(t, 36)
		}
		r.brings(t, 5)
	}
}

// TestWhatIsntADelivery: what was noted as scheduled, but is a record of which there is no delivery that is right, stays.
func TestWhatIsntADelivery(t *testing.T) {
	r := fresh(t, 5)
	r.put(t, cancels(7))
	r.set.Note(0, due(4))
	r.deq.Add(0)
	r.stays(t, 5, api.ErrArg)
	r.put(t, cancels(0))
	r.drops(t, 5)
}

// TestNothingIsSynced: neither the record nor its delivery has to be, and a step doesn't do it.
func TestNothingIsSynced(t *testing.T) {
	r := fresh(t, 5)
	r.added(t, dues(4, 3)...)
	r.timed(t, due(6))
	ok(t, r.tape.Sync())
	synced := r.tape.Synced()
	r.timed(t, due(6))
	waits := r.main.Waits()
	r.brings(t, 5)
	r.brings(t, 5)
	r.turns(t, 6, 72, 108)
	r.brings(t, 6)
	r.brings(t, 6)
	if r.tape.Synced() != synced || r.main.Waits() != waits+4 {
		t.Errorf("synced up to %d, %d wait", r.tape.Synced(), r.main.Waits())
	}
}

// TestASynclessDelivery is lost in a crash: the record is due again, and comes, once.
func TestASynclessDelivery(t *testing.T) {
	for _, syncs := range []bool{false, true} {
		r := fresh(t, 5)
		r.added(t, due(4))
		ok(t, r.tape.Sync())
		r.brings(t, 5)
		if syncs {
			ok(t, r.tape.Sync())
		}
		r.reopens(t, 9, disk.Plan{})
		r.deq.Add(0)
		if syncs {
			r.drops(t, 9)
		} else {
			r.brings(t, 9)
		}
		if l := deliveries(t, r.tape); len(l) != 1 || len(l[0]) != 1 {
			t.Errorf("%v", l)
		}
	}
}

// reopens is a crash: the tape is opened anew, what is on it is noted, and the timer log is made anew.
func (r *rig) reopens(t *testing.T, hand int, p disk.Plan) {
	t.Helper()
	r.main.Crash(p)
	r.cache.Crash(disk.Plan{})
	var e api.Errno
	r.tape, e = tape.Open(r.main)
	ok(t, e)
	r.set, r.all = pend.New(), nil
	for _, id := range r.tape.Ids(0) {
		m, e := r.tape.Read(id)
		ok(t, e)
		r.set.Note(id, m)
		r.all = append(r.all, item{id, m})
	}
	r.again(t, hand)
}

// TestASegmentsEnd: a delivery that doesn't go into the last segment is put into the next one.
func TestASegmentsEnd(t *testing.T) {
	for n := least; n <= 236; n++ {
		r := fresh(t, 5)
		r.put(t, message(236), message(236), message(236))
		r.added(t, scheduled(n, 4), scheduled(n, 3))
		r.brings(t, 5)
		r.brings(t, 5)
		r.stays(t, 5, api.OK)
	}
}

// TestItsTape: a dequeuer's tape is embedded: it answers as that.
func TestItsTape(t *testing.T) {
	r := fresh(t, 5)
	id, e := r.deq.Append(due(4))
	ok(t, e, r.deq.Sync())
	if m, e := r.deq.Read(id); e != api.OK || !rec.Same(m, due(4)) || r.deq.Tape != r.tape || r.tape.Synced() != 36 {
		t.Errorf("Read: %v, %d", m, e)
	}
	r.set.Note(id, due(4))
	r.all = append(r.all, item{id, due(4)})
	r.deq.Add(id)
	r.brings(t, 5)
}

// TestPromise: with an enqueuer, and steps between the seconds, each scheduled record comes once, no earlier than it is due, and never, if it was cancelled ahead of that.
func TestPromise(t *testing.T) {
	for seed := range 30 {
		r := fresh(t, 10)
		x, e := enq.New(r.tape, r.set, r.timers)
		ok(t, e)
		gone := map[int]bool{}
		for now := 10; now < 200; now += 1 + now*seed%3/2 {
			for i := range (now*7 + seed*3) % 5 {
				if now >= 100 { // all are to come, in the end
					break
				}
				r.put(t, due(now-3+(now*13+i*29+seed*17)%80), message(40+i))
			}
			if p := r.set.Pending(); len(p) > 0 && now*11%7 == 0 {
				id := p[(now+seed)%len(p)]
				r.put(t, cancels(id))
				gone[id] = true
			}
			if now%3 == 0 {
				ok(t, r.tape.Sync())
			}
			_, e := x.All()
			ok(t, e)
			r.deq.Add(x.Late()...)
			for range (now + seed) % 4 {
				_, e := r.deq.Step(now)
				ok(t, e)
			}
			if (now+seed)%5 == 0 || now > 180 {
				ok(t, r.tape.Sync())
				r.settles(t, now)
			}
		}
		r.holds(t, gone)
	}
}

// holds fails, if one of the records came that was to go, or one didn't that was to come, or too early, or twice.
func (r *rig) holds(t *testing.T, gone map[int]bool) {
	t.Helper()
	all, n := deliveries(t, r.tape), 0
	for _, v := range r.all {
		if v.m.Kind != api.Scheduled {
			continue
		}
		l := all[v.id]
		if n++; gone[v.id] {
			if len(l) != 0 {
				t.Fatalf("%d was cancelled; it came: %v", v.id, l)
			}
			continue
		}
		if len(l) != 1 || l[0].Born < v.m.Due || l[0].Due != v.m.Due {
			t.Fatalf("%d, due at %d: %v", v.id, v.m.Due, l)
		}
	}
	if n < 50 || len(gone) == 0 || len(all) != n-len(gone) {
		t.Fatalf("%d scheduled, %d cancelled, %d came", n, len(gone), len(all))
	}
}

func TestNoArguments(t *testing.T) {
	r := fresh(t, 5)
	for i, c := range []struct {
		t *tape.Tape
		p *pend.Set
		l *tlog.Log
	}{{nil, r.set, r.timers}, {r.tape, nil, r.timers}, {r.tape, r.set, nil}, {nil, nil, r.timers}, {nil, nil, nil}} {
		if x, e := deq.New(c.t, c.p, c.l); x != nil || e != api.ErrArg {
			t.Errorf("row %d: %v, %d", i, x, e)
		}
	}
}

// TestNewDoesNothing: its list is empty, whatever is pending.
func TestNewDoesNothing(t *testing.T) {
	r := fresh(t, 5)
	r.timed(t, due(6))
	r.put(t, due(4))
	was := r.look(t)
	x, e := deq.New(r.tape, r.set, r.timers)
	ok(t, e)
	if len(x.Due()) != 0 || x.Busy(5) || !x.Busy(6) {
		t.Errorf("%v, %t", x.Due(), x.Busy(5))
	}
	r.same(t, was)
}

// nothing fails, if a dequeuer that is none isn't refused.
func nothing(t *testing.T, x *deq.Dequeuer) {
	t.Helper()
	for range 2 {
		if did, e := x.Step(9); did || e != api.ErrArg {
			t.Errorf("Step: %t, %d", did, e)
		}
		if len(x.Due()) != 0 || x.Busy(9) || x.Busy(0) {
			t.Errorf("Due: %v; Busy: %t", x.Due(), x.Busy(9))
		}
		x.Add(0, 1)
	}
}

func TestNoDequeuer(t *testing.T) { nothing(t, nil) }

// TestWhatNewDidNotMake: nothing panics.
func TestWhatNewDidNotMake(t *testing.T) {
	r := fresh(t, 5)
	r.put(t, dues(9, 0)...)
	for _, x := range []*deq.Dequeuer{{}, {Tape: &tape.Tape{}}, {Tape: r.tape}} { // they have nothing to ask
		nothing(t, x)
	}
	x, e := deq.New(r.tape, r.set, &tlog.Log{})
	ok(t, e)
	if did, e := x.Step(9); did || e != api.OK {
		t.Errorf("Step: %t, %d", did, e)
	}
	x, e = deq.New(r.tape, &pend.Set{}, r.timers) // of nothing that was noted
	ok(t, e)
	x.Add(0)
	if did, e := x.Step(9); !did || e != api.OK || r.tape.End() != 72 {
		t.Errorf("Step: %t, %d", did, e)
	}
	for _, none := range []*tape.Tape{{}, nil} {
		x, e = deq.New(&tape.Tape{}, r.set, r.timers)
		ok(t, e)
		x.Tape = none
		x.Add(0)
		x.Step(9)
		if r.tape.End() != 72 || r.set.State(0) != pend.Waits {
			t.Errorf("Step: %d", r.set.State(0))
		}
	}
}
