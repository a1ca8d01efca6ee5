package enq_test

import (
	"math"
	"slices"
	"strings"
	"testing"

	"reveille/api"
	"reveille/crc"
	"reveille/disk"
	"reveille/enq"
	"reveille/entry"
	"reveille/pend"
	"reveille/rec"
	"reveille/tape"
	"reveille/tlog"
)

// All tests of this package hold promise P19.1: all are what the chapter says, and each scheduled record that is pending comes into the timer log, or among the late ones, just once.

const (
	segment = 1024
	slots   = 16
	least   = 36      // bytes of a record of topic "a"
	top     = 1 << 40 // the greatest time
)

var sums = crc.New()

// item is a record, and its number.
type item struct {
	id int
	m  api.Msg
}

// rig is an enqueuer, all that it goes along, asks or writes to, and all records that were ever put.
type rig struct {
	main, cache *disk.Disk
	tape        *tape.Tape
	set         *pend.Set
	timers      *tlog.Log
	enq         *enq.Enqueuer
	all         []item
}

// ok fails, if a call wasn't told OK.
func ok(t *testing.T, l ...api.Errno) {
	t.Helper()
	for i, e := range l {
		if e != api.OK {
			t.Fatalf("call %d: %d, not OK", i, e)
		}
	}
}

// fresh is a rig without records, whose timer log's hand stands somewhere.
func fresh(t *testing.T, hand int) *rig {
	t.Helper()
	r := &rig{main: disk.New(1 << 20), cache: disk.New(1 << 16), set: pend.New()}
	var e api.Errno
	r.tape, e = tape.Open(r.main)
	ok(t, e)
	r.again(t, hand)
	return r
}

// again makes the timer log anew, and the enqueuer.
func (r *rig) again(t *testing.T, hand int) {
	t.Helper()
	var e [2]api.Errno
	r.timers, e[0] = tlog.New(r.cache, hand)
	r.enq, e[1] = enq.New(r.tape, r.set, r.timers)
	ok(t, e[:]...)
}

// noteAnew notes the records alone that are there.
func (r *rig) noteAnew(l ...item) {
	r.set = pend.New()
	for _, v := range l {
		r.set.Note(v.id, v.m)
	}
}

// put appends records, and notes them; the first one's number is told.
func (r *rig) put(t *testing.T, l ...api.Msg) int {
	t.Helper()
	n := len(r.all)
	for _, m := range l {
		id, e := r.tape.Append(m)
		ok(t, e)
		r.set.Note(id, m)
		r.all = append(r.all, item{id, m})
	}
	return r.all[n].id
}

// synced is put, and syncs the tape.
func (r *rig) synced(t *testing.T, l ...api.Msg) int {
	t.Helper()
	id := r.put(t, l...)
	ok(t, r.tape.Sync())
	return id
}

// steps does so many steps, and fails, if one does nothing.
func (r *rig) steps(t *testing.T, n int) {
	t.Helper()
	for i := range n {
		if did, e := r.enq.Step(); !did || e != api.OK {
			t.Fatalf("step %d: %t, %d", i, did, e)
		}
	}
}

// stays fails, if a step does something, or is told another error.
func (r *rig) stays(t *testing.T, want api.Errno) {
	t.Helper()
	if did, e := r.enq.Step(); did || e != want {
		t.Fatalf("Step: %t, %d, not %d", did, e, want)
	}
}

// goesOn fails, if All does another number of steps, or is told an error.
func (r *rig) goesOn(t *testing.T, want int) {
	t.Helper()
	if n, e := r.enq.All(); n != want || e != api.OK {
		t.Fatalf("All: %d, %d, not %d", n, e, want)
	}
}

// stands fails, if the cursor stands elsewhere, or others are left.
func (r *rig) stands(t *testing.T, cursor, left int) {
	t.Helper()
	if r.enq.Cursor() != cursor || r.enq.Left() != left {
		t.Fatalf("Cursor: %d; Left: %d, not %d, %d", r.enq.Cursor(), r.enq.Left(), cursor, left)
	}
}

// has fails, if the timer log isn't what these records lead to, put in that order, or its disk has another byte of it.
func (r *rig) has(t *testing.T, l ...item) {
	t.Helper()
	d := disk.New(1 << 20)
	x, e := tlog.New(d, r.timers.Hand())
	ok(t, e)
	for _, v := range l {
		ok(t, x.Put(v.m.Due, v.id))
	}
	for _, f := range r.cache.List("y") { // there may be others' files
		s, e := r.cache.All(f)
		ok(t, e, d.Create(f), d.Write(f, 0, s))
	}
	if r.timers.Len() != len(l) || !r.cache.Same(d) {
		for _, f := range d.List("") {
			s, _ := r.cache.All(f)
			want, _ := d.All(f)
			t.Logf("%q: %q, not %q", f, s, want)
		}
		t.Fatalf("%d marks in %v, not %d", r.timers.Len(), r.cache.List(""), len(l))
	}
}

// lateAre fails, if others are late; it asks twice, as the list is empty then.
func (r *rig) lateAre(t *testing.T, want ...int) {
	t.Helper()
	if l := r.enq.Late(); !slices.Equal(l, want) {
		t.Fatalf("Late: %v, not %v", l, want)
	}
	if l := r.enq.Late(); len(l) != 0 {
		t.Fatalf("Late, once more: %v", l)
	}
}

// size is how many bytes a record has.
func size(t *testing.T, m api.Msg) int {
	t.Helper()
	s, e := rec.Put(sums, m)
	ok(t, e)
	return len(s)
}

// due is a scheduled record.
func due(at int) api.Msg { return api.Msg{Kind: api.Scheduled, Topic: "a", Due: at} }

// dues are several.
func dues(at ...int) []api.Msg {
	var l []api.Msg
	for _, n := range at {
		l = append(l, due(n))
	}
	return l
}

// sized is a record of a kind that isn't a cancel, of so many bytes, from least to 236.
func sized(kind, n int) api.Msg {
	return api.Msg{Kind: kind, Topic: "a", Body: strings.Repeat("b", n-least)}
}

// scheduled is a scheduled one of so many bytes.
func scheduled(n, at int) api.Msg {
	m := sized(api.Scheduled, n)
	m.Due = at
	return m
}

// message is one of so many bytes.
func message(n int) api.Msg { return sized(api.Message, n) }

// others are records of each other kind.
func others() []api.Msg {
	return []api.Msg{
		{Kind: api.Message, Topic: "a", Keys: []string{"k"}, Body: "hi", Born: 3},
		{Kind: api.Delivery, Topic: "a", Due: 9, Ref: 1 << 30, Born: 9},
		{Kind: api.Cancel, Ref: 1 << 30, Born: 4},
	}
}

func TestExample(t *testing.T) {
	r := fresh(t, 5)
	r.put(t, dues(5, 6)...)
	r.stays(t, api.OK)
	r.stands(t, 0, 0)
	r.has(t)
	ok(t, r.tape.Sync())
	r.stands(t, 0, 2)
	r.steps(t, 1)
	r.stands(t, 36, 1)
	r.has(t)
	r.lateAre(t, 0)
	r.steps(t, 1)
	r.stands(t, 72, 0)
	r.has(t, r.all[1])
	r.lateAre(t)
	r.stays(t, api.OK)
	r.has(t, r.all[1])
	r.lateAre(t)
}

// TestLateOrPut: at the hand, and before, it is late; behind it, it is put.
func TestLateOrPut(t *testing.T) {
	for _, hand := range []int{0, 1, 5, 15, 16, 17, 1000, top - 1, top} {
		for _, at := range []int{0, 1, 2, 4, 5, 6, 14, 15, 16, 17, 18, 21, 22, 999, 1000, 1001, 1016, 1<<32 + 5, top - 2, top - 1, top} {
			r := fresh(t, hand)
			r.synced(t, message(50), due(at))
			r.stands(t, 0, 1)
			r.steps(t, 1)
			r.stands(t, 86, 0)
			if at <= hand {
				r.has(t)
				r.lateAre(t, 50)
				continue
			}
			r.has(t, r.all[1])
			r.lateAre(t)
			if l, e := r.timers.Chain(at % slots); e != api.OK || !slices.Equal(l, []entry.Mark{{Due: at, At: 50, Puts: 1}}) {
				t.Errorf("hand %d: Chain: %v, %d", hand, l, e)
			}
		}
	}
}

// TestEachKind: records of other kinds are gone over, and come nowhere.
func TestEachKind(t *testing.T) {
	for _, hand := range []int{0, 5, 20} {
		for _, m := range others() {
			r := fresh(t, hand)
			r.synced(t, m)
			r.stands(t, 0, 0)
			r.stays(t, api.OK)
			r.stands(t, size(t, m), 0)
			r.goesOn(t, 0)
			r.stands(t, size(t, m), 0)
			r.has(t)
			r.lateAre(t)
		}
	}
}

// TestOtherKindsAreGoneOver: by the step of the next scheduled one, or, if there is none, by one that does nothing.
func TestOtherKindsAreGoneOver(t *testing.T) {
	for ahead := range 4 {
		for behind := range 4 {
			r := fresh(t, 5)
			l := slices.Concat(others()[:ahead], dues(9), others()[:behind], dues(4), others()[3-behind:])
			r.synced(t, l...)
			first, second := r.all[ahead], r.all[ahead+1+behind]
			r.stands(t, 0, 2)
			r.steps(t, 1)
			r.stands(t, first.id+36, 1)
			r.has(t, first)
			r.steps(t, 1)
			r.stands(t, second.id+36, 0)
			r.lateAre(t, second.id)
			r.stays(t, api.OK)
			r.stands(t, r.tape.End(), 0)
			r.has(t, first)
			r.lateAre(t)
		}
	}
}

// TestWhatIsntScheduledIsntAsked: also where its number was noted as a scheduled one's, it comes nowhere.
func TestWhatIsntScheduledIsntAsked(t *testing.T) {
	r := fresh(t, 5)
	for _, m := range others() {
		for _, at := range []int{4, 9} {
			r.set.Note(r.tape.End(), due(at))
			r.synced(t, m)
		}
	}
	if len(r.set.Pending()) != 6 {
		t.Fatal(r.set.Pending())
	}
	r.stands(t, 0, 0)
	r.stays(t, api.OK)
	r.stands(t, r.tape.End(), 0)
	r.has(t)
	r.lateAre(t)
}

// TestStates: of the scheduled ones just those that are pending come, but all are looked at.
func TestStates(t *testing.T) {
	for _, c := range []struct {
		notes []int // the kinds that are noted of it
		comes bool
	}{
		{nil, false}, {[]int{api.Scheduled}, true}, {[]int{api.Message}, false}, {[]int{api.Delivery}, false}, {[]int{api.Cancel, api.Scheduled}, true},
		{[]int{api.Scheduled, api.Delivery}, false}, {[]int{api.Scheduled, api.Cancel}, false}, {[]int{api.Scheduled, api.Cancel, api.Delivery}, false},
		{[]int{api.Scheduled, api.Delivery, api.Cancel}, false}, {[]int{api.Scheduled, api.Cancel, api.Scheduled}, false}, {[]int{api.Scheduled, api.Scheduled}, true},
	} {
		for _, at := range []int{0, 5, 6, 500} {
			r := fresh(t, 5)
			r.synced(t, message(50), due(at), due(7))
			r.set = pend.New()
			r.again(t, 5)
			r.set.Note(86, due(7))
			for _, kind := range c.notes {
				if kind == api.Scheduled {
					r.set.Note(50, due(at))
				} else {
					r.set.Note(1000, api.Msg{Kind: kind, Ref: 50})
				}
			}
			r.stands(t, 0, 2)
			r.steps(t, 1)
			r.stands(t, 86, 1)
			r.steps(t, 1)
			r.stands(t, 122, 0)
			var want []item
			if c.comes && at > 5 {
				want = append(want, r.all[1])
			}
			r.has(t, append(want, r.all[2])...)
			if c.comes && at <= 5 {
				r.lateAre(t, 50)
			}
			r.lateAre(t)
		}
	}
}

// TestTheStateIsAskedWhenItIsLookedAt: what is over by then doesn't come, be its end synced or not; what ends later has come.
func TestTheStateIsAskedWhenItIsLookedAt(t *testing.T) {
	for _, kind := range []int{api.Delivery, api.Cancel} {
		end := func(id int) api.Msg {
			if kind == api.Cancel {
				return api.Msg{Kind: kind, Ref: id}
			}
			return api.Msg{Kind: kind, Topic: "a", Ref: id}
		}
		r := fresh(t, 5)
		r.synced(t, dues(9, 4, 10, 3, 11, 2)...)
		r.steps(t, 2)
		for _, v := range r.all[:4] {
			r.put(t, end(v.id))
		}
		r.stands(t, 72, 4)
		r.steps(t, 4)
		r.stays(t, api.OK)
		r.has(t, r.all[0], r.all[4])
		r.lateAre(t, r.all[1].id, r.all[5].id)
	}
}

// TestAllThatARecordMayHave: of what a scheduled record has, when it is due counts alone.
func TestAllThatARecordMayHave(t *testing.T) {
	z := strings.Repeat("~", 15)
	r := fresh(t, 100)
	for _, at := range []int{99, 100, 101, 4000} {
		r.put(t,
			api.Msg{Kind: api.Scheduled, Topic: "%retry%g", Due: at, Ref: 5, Retry: 1, Born: 98},
			api.Msg{Kind: api.Scheduled, Topic: "%retry%g", Due: at, Ref: 0, Retry: 4, Born: top, Queue: 2},
			api.Msg{Kind: api.Scheduled, Topic: "b", Due: at, Ref: top, Tag: "x", Keys: []string{"k"}},
			api.Msg{Kind: api.Scheduled, Topic: "%dead%" + strings.Repeat("g", 8), Queue: 2, Due: at, Tag: strings.Repeat("t", 16), Body: strings.Repeat("\xff", 200), Keys: []string{z + "1", z + "2", z + "3"}, Ref: top, Born: top, Retry: 4},
		)
	}
	ok(t, r.tape.Sync())
	r.stands(t, 0, 16)
	r.goesOn(t, 16)
	r.stands(t, r.tape.End(), 0)
	r.has(t, r.all[8:]...)
	var want []int
	for _, v := range r.all[:8] {
		want = append(want, v.id)
	}
	r.lateAre(t, want...)
}

// TestInOrder: in the tape's order they stand in their slots' chains, and among the late ones.
func TestInOrder(t *testing.T) {
	r := fresh(t, 5)
	r.synced(t, dues(25, 5, 9, 41, 3, 6, 25, 4, 9, 5, 7, 0, 25)...)
	r.goesOn(t, 13)
	r.has(t, r.all[0], r.all[2], r.all[3], r.all[5], r.all[6], r.all[8], r.all[10], r.all[12])
	want := []entry.Mark{{Due: 25, At: 0, Puts: 1}, {Due: 9, At: 72, Ahead: 1, Puts: 1}, {Due: 41, At: 108, Ahead: 2, Puts: 1}, {Due: 25, At: 216, Ahead: 3, Puts: 1}, {Due: 9, At: 288, Ahead: 5, Puts: 1}, {Due: 25, At: 432, Ahead: 6, Puts: 1}}
	if l, e := r.timers.Chain(9); e != api.OK || !slices.Equal(l, want) {
		t.Errorf("Chain: %v, %d, not %v", l, e, want)
	}
	r.lateAre(t, 36, 144, 252, 324, 396)
}

// TestLate: the list has what was late since it was asked last, and is its asker's own.
func TestLate(t *testing.T) {
	r := fresh(t, 5)
	r.lateAre(t)
	r.synced(t, dues(1, 2, 3, 9, 4, 5)...)
	r.lateAre(t)
	r.steps(t, 2)
	l := r.enq.Late()
	r.steps(t, 3)
	more := r.enq.Late()
	if !slices.Equal(l, []int{0, 36}) || !slices.Equal(more, []int{72, 144}) {
		t.Errorf("%v, then %v", l, more)
	}
	clear(more)
	more = append(more[:0], 7, 7, 7)
	r.steps(t, 1)
	r.lateAre(t, 180)
	if !slices.Equal(l, []int{0, 36}) || !slices.Equal(more, []int{7, 7, 7}) {
		t.Errorf("%v, then %v", l, more)
	}
	r.has(t, r.all[3])
}

// TestLateStays: what isn't asked for stays in the list, also where it is over, or trimmed.
func TestLateStays(t *testing.T) {
	r := fresh(t, 5)
	for i := range 10 {
		r.synced(t, scheduled(236, i%7))
		r.goesOn(t, 1)
	}
	r.put(t, api.Msg{Kind: api.Cancel, Ref: 0})
	_, e := r.tape.Drop()
	ok(t, e)
	r.set.Trim(r.tape.Begin())
	r.lateAre(t, r.all[0].id, r.all[1].id, r.all[2].id, r.all[3].id, r.all[4].id, r.all[5].id, r.all[7].id, r.all[8].id, r.all[9].id)
}

// TestTheHandGoesOn: it counts where the hand is when a record is looked at.
func TestTheHandGoesOn(t *testing.T) {
	r := fresh(t, 5)
	r.synced(t, dues(6, 6, 6, 7, 7, 8)...)
	r.steps(t, 1)
	r.has(t, r.all[0])
	if l, did, e := r.timers.Next(6); !did || e != api.OK || len(l) != 1 || l[0].At != 0 {
		t.Fatalf("Next: %v, %t, %d", l, did, e)
	}
	r.steps(t, 3)
	r.lateAre(t, 36, 72)
	_, _, e := r.timers.Next(9)
	ok(t, e)
	r.steps(t, 2)
	r.lateAre(t, 144)
	if l, e := r.timers.Chain(8); e != api.OK || !slices.Equal(l, []entry.Mark{{Due: 8, At: 180, Puts: 1}}) || r.timers.Len() != 3 || r.timers.Hand() != 7 {
		t.Errorf("Chain: %v, %d; %d marks; hand %d", l, e, r.timers.Len(), r.timers.Hand())
	}
}

// TestJustOnce: with steps, and All, between the seconds, each pending record is told by the timer log at its second, or is late, once.
func TestJustOnce(t *testing.T) {
	for seed := range 20 {
		r := fresh(t, 10)
		came := map[int][]int{}
		for now := 10; now < 120; now++ {
			for i := range (now*7 + seed*3) % 5 {
				if now >= 40 { // all are to come, in the end
					break
				}
				r.put(t, due(now-3+(now*13+i*29+seed*17)%70), message(40+i))
			}
			if now%3 == 0 {
				ok(t, r.tape.Sync())
			}
			for range (now + seed) % 3 {
				_, e := r.enq.Step()
				ok(t, e)
			}
			if (now+seed)%4 == 0 {
				_, e := r.enq.All()
				ok(t, e)
			}
			for _, id := range r.enq.Late() {
				came[id] = append(came[id], now)
			}
			l, _, e := r.timers.Next(now)
			ok(t, e)
			for _, m := range l {
				came[m.At] = append(came[m.At], now)
				if m.Due != now {
					t.Fatalf("%v came at %d", m, now)
				}
			}
		}
		if len(came) < 20 || len(came)*2 != len(r.all) {
			t.Fatalf("%d came, of %d", len(came), len(r.all)/2)
		}
		for _, v := range r.all {
			if l := came[v.id]; v.m.Kind == api.Scheduled && (len(l) != 1 || l[0] < v.m.Due) {
				t.Errorf("%d, due at %d, came at %v", v.id, v.m.Due, l)
			}
		}
	}
}

// TestTheCursorIsBehindTheRecord: and so ahead of a filler, if there is one.
func TestTheCursorIsBehindTheRecord(t *testing.T) {
	r := fresh(t, 5)
	r.synced(t, scheduled(236, 9), scheduled(236, 4), scheduled(236, 3), scheduled(236, 7), scheduled(50, 9), scheduled(60, 9)) // 944, 30 are left
	cursors := []int{236, 472, 708, 944, 994, 1084}
	for i, at := range cursors {
		r.steps(t, 1)
		r.stands(t, at, len(cursors)-1-i)
	}
	r.stays(t, api.OK)
	r.stands(t, 1084, 0)
	r.has(t, r.all[0], r.all[3], r.all[4], r.all[5])
	r.lateAre(t, 236, 472)
}

// TestAFillerAtTheEnd: a filler is no record: behind it there is nothing to look at.
func TestAFillerAtTheEnd(t *testing.T) {
	for n, m := range []api.Msg{message(40), scheduled(40, 9)} { // so many are scheduled
		s, fits := rec.Fill(segment - 40)
		if !fits {
			t.Fatal("no filler")
		}
		first, e := rec.Put(sums, m)
		d := disk.New(1 << 20)
		ok(t, e, d.Create("tape-00000000"), d.Write("tape-00000000", 0, first+s), d.Sync("tape-00000000"))
		x, e := tape.Open(d)
		ok(t, e)
		r := &rig{main: d, cache: disk.New(1 << 20), tape: x}
		r.noteAnew(item{0, m})
		r.again(t, 5)
		r.stands(t, 0, n)
		r.steps(t, n)
		r.stays(t, api.OK)
		r.stands(t, 40, 0)
		r.synced(t, scheduled(50, 4))
		r.stands(t, 40, 1)
		r.steps(t, 1)
		r.stands(t, segment+50, 0)
		r.has(t, []item{{0, m}}[:n]...)
		r.lateAre(t, segment)
	}
}

// TestJustWhatIsSynced: what lies behind the tape's Synced isn't looked at, isn't gone over, and isn't left either.
func TestJustWhatIsSynced(t *testing.T) {
	r := fresh(t, 5)
	var want []item
	for i := range 60 {
		r.synced(t, message(40+i))
		end := r.tape.End()
		r.put(t, message(50), due(9+i), api.Msg{Kind: api.Cancel, Ref: 1 << 30}, due(1000-i))
		n := min(i, 1) * 2
		r.stands(t, r.enq.Cursor(), n)
		r.steps(t, n)
		r.stays(t, api.OK)
		r.stands(t, end, 0)
		r.has(t, want...)
		want = append(want, r.all[len(r.all)-3], r.all[len(r.all)-1])
	}
	ok(t, r.tape.Sync())
	r.steps(t, 2)
	r.stays(t, api.OK)
	r.has(t, want...)
	r.lateAre(t)
}

// TestAll counts the scheduled ones alone.
func TestAll(t *testing.T) {
	r := fresh(t, 5)
	var want []item
	var late []int
	for n := range 20 {
		for i := range n {
			r.put(t, message(40), due(i), api.Msg{Kind: api.Cancel, Ref: 1 << 30})
			if v := r.all[len(r.all)-2]; i > 5 {
				want = append(want, v)
			} else {
				late = append(late, v.id)
			}
		}
		r.goesOn(t, 0)
		ok(t, r.tape.Sync())
		r.stands(t, r.enq.Cursor(), n)
		r.goesOn(t, n)
		r.stands(t, r.tape.End(), 0)
		r.goesOn(t, 0)
		r.has(t, want...)
	}
	r.lateAre(t, late...)
}

// TestOneStepIsOneScheduledRecord: All does what steps do.
func TestOneStepIsOneScheduledRecord(t *testing.T) {
	l := slices.Concat(others(), dues(6), others(), dues(3, 9), others(), dues(200))
	for ahead := range 5 {
		r := fresh(t, 5)
		r.synced(t, l...)
		r.steps(t, ahead)
		r.has(t, [][]item{{}, {r.all[3]}, {r.all[3]}, {r.all[3], r.all[8]}, {r.all[3], r.all[8], r.all[12]}}[ahead]...)
		r.goesOn(t, 4-ahead)
		r.has(t, r.all[3], r.all[8], r.all[12])
		r.lateAre(t, r.all[7].id)
	}
}

// dropped is a rig of four segments of scheduled records, of which the enqueuer did so many steps before the first segments went.
func dropped(t *testing.T, steps, drops int) *rig {
	t.Helper()
	r := fresh(t, 5)
	for i := range 18 { // four a segment, and 80 bytes of a filler
		r.put(t, scheduled(236, 10+i%3))
	}
	ok(t, r.tape.Sync())
	r.steps(t, steps)
	for range drops {
		_, e := r.tape.Drop()
		ok(t, e)
	}
	return r
}

// TestATapeWhoseBeginIsDropped: if the tape begins behind the cursor, that goes there with the next step.
func TestATapeWhoseBeginIsDropped(t *testing.T) {
	for steps := range 19 {
		for drops := range 5 {
			r := dropped(t, steps, drops)
			done, next := r.all[:steps], r.all[max(steps, 4*drops):]
			cursor := 0
			if steps > 0 {
				cursor = r.all[steps-1].id + 236
			}
			r.stands(t, cursor, len(next))
			r.has(t, done...)
			for i, v := range next {
				r.steps(t, 1)
				r.stands(t, v.id+236, len(next)-1-i)
			}
			r.stays(t, api.OK)
			r.has(t, slices.Concat(done, next)...)
			r.lateAre(t)
		}
	}
}

// TestNothingIsLeftOfADroppedTape: the cursor goes where the tape begins, though no record is synced there.
func TestNothingIsLeftOfADroppedTape(t *testing.T) {
	r := fresh(t, 5)
	r.synced(t, scheduled(200, 9))
	r.put(t, scheduled(200, 9), scheduled(200, 9), scheduled(200, 9), scheduled(200, 9), scheduled(100, 9))
	_, e := r.tape.Drop()
	ok(t, e)
	if r.tape.Synced() != segment || r.all[5].id != segment {
		t.Fatalf("Synced: %d; %v", r.tape.Synced(), r.all)
	}
	r.stands(t, 0, 0)
	r.stays(t, api.OK)
	r.stands(t, segment, 0)
	r.has(t)
	ok(t, r.tape.Sync())
	r.stands(t, segment, 1)
	r.steps(t, 1)
	r.stands(t, segment+100, 0)
	r.has(t, r.all[5])
}

// TestATapeThatWasDroppedAhead: the cursor is where the tape begins.
func TestATapeThatWasDroppedAhead(t *testing.T) {
	for drops := range 5 {
		r := dropped(t, 0, drops)
		r.again(t, 5)
		r.stands(t, drops*segment, len(r.all)-4*drops)
		r.goesOn(t, len(r.all)-4*drops)
		r.has(t, r.all[4*drops:]...)
	}
}

// TestMadeAnew: over the same tape, behind a crash, with a timer log that is made anew, it leads to the same; what is late by then is told so.
func TestMadeAnew(t *testing.T) {
	r := fresh(t, 5)
	for i := range 30 {
		r.synced(t, due(3+i), message(40))
	}
	r.put(t, dues(50, 60)...)
	r.steps(t, 17)
	r.main.Crash(disk.Plan{})
	r.cache.Crash(disk.Plan{})
	r.all = r.all[:60]
	var e api.Errno
	r.tape, e = tape.Open(r.main)
	ok(t, e)
	r.noteAnew(r.all...)
	for _, hand := range []int{5, 5, 0, 20, 40} {
		r.again(t, hand)
		r.stands(t, 0, 30)
		r.goesOn(t, 30)
		r.stands(t, r.tape.End(), 0)
		var put []item
		var late []int
		for i := 0; i < 60; i += 2 {
			if v := r.all[i]; v.m.Due > hand {
				put = append(put, v)
			} else {
				late = append(late, v.id)
			}
		}
		r.has(t, put...)
		r.lateAre(t, late...)
	}
}

// TestTheTapeIsOnlyRead: nothing is written to the disk of the tape, nothing is noted, and nothing of the timer log is synced.
func TestTheTapeIsOnlyRead(t *testing.T) {
	r := fresh(t, 5)
	r.synced(t, slices.Concat(others(), dues(9, 4, 10))...)
	r.put(t, message(70))
	waits, ahead := r.main.Waits(), r.cache.Waits()
	r.main.Fuse(0)
	r.steps(t, 3)
	r.stays(t, api.OK)
	if r.main.Down() || r.main.Waits() != waits || r.cache.Waits() != ahead+4 { // two writes for each mark
		t.Errorf("down: %t; %d wait, and %d", r.main.Down(), r.main.Waits(), r.cache.Waits())
	}
	if l := r.set.Pending(); !slices.Equal(l, []int{r.all[4].id, r.all[3].id, r.all[5].id}) {
		t.Errorf("Pending: %v", l)
	}
}

// TestItsTape: an enqueuer's tape is embedded: it answers as that.
func TestItsTape(t *testing.T) {
	r := fresh(t, 5)
	m := due(9)
	id, e := r.enq.Append(m)
	ok(t, e, r.enq.Sync())
	r.set.Note(id, m)
	if x, e := r.enq.Read(id); e != api.OK || !rec.Same(m, x) || r.enq.Tape != r.tape || r.tape.Synced() != 36 {
		t.Errorf("Read: %v, %d", x, e)
	}
	r.steps(t, 1)
	r.has(t, item{0, m})
}

func TestNoArguments(t *testing.T) {
	r := fresh(t, 5)
	r.synced(t, due(9))
	for i, c := range []struct {
		t *tape.Tape
		p *pend.Set
		l *tlog.Log
	}{{nil, r.set, r.timers}, {r.tape, nil, r.timers}, {r.tape, r.set, nil}, {nil, nil, r.timers}, {nil, nil, nil}} {
		if x, e := enq.New(c.t, c.p, c.l); x != nil || e != api.ErrArg {
			t.Errorf("row %d: %v, %d", i, x, e)
		}
	}
	r.has(t)
	r.stands(t, 0, 1)
}

func TestNoEnqueuer(t *testing.T) {
	var x *enq.Enqueuer
	if did, e := x.Step(); did || e != api.ErrArg {
		t.Errorf("Step: %t, %d", did, e)
	}
	if n, e := x.All(); n != 0 || e != api.ErrArg {
		t.Errorf("All: %d, %d", n, e)
	}
	if x.Cursor() != 0 || x.Left() != 0 || len(x.Late()) != 0 {
		t.Errorf("Cursor: %d; Left: %d; Late: %v", x.Cursor(), x.Left(), x.Late())
	}
}

// TestWhatNewDidNotMake: nothing panics.
func TestWhatNewDidNotMake(t *testing.T) {
	r := fresh(t, 5)
	r.synced(t, dues(9, 0)...)
	for i, x := range []*enq.Enqueuer{{}, {Tape: &tape.Tape{}}, {Tape: r.tape}} { // they have nothing to write to
		if did, e := x.Step(); did || e != api.ErrArg {
			t.Errorf("row %d: Step: %t, %d", i, did, e)
		}
		if n, e := x.All(); n != 0 || e != api.ErrArg || x.Cursor() != 0 || x.Left() != i/2*2 || len(x.Late()) != 0 {
			t.Errorf("row %d: All: %d, %d; Cursor: %d; Left: %d", i, n, e, x.Cursor(), x.Left())
		}
	}
	x, e := enq.New(r.tape, r.set, &tlog.Log{})
	ok(t, e)
	if did, e := x.Step(); did || e == api.OK || x.Cursor() != 0 || x.Left() != 2 {
		t.Errorf("Step: %t, %d", did, e)
	}
	x, e = enq.New(&tape.Tape{}, r.set, r.timers)
	ok(t, e)
	if did, e := x.Step(); did || e != api.OK || x.Cursor() != 0 || x.Left() != 0 {
		t.Errorf("Step: %t, %d", did, e)
	}
	x, e = enq.New(r.tape, &pend.Set{}, r.timers) // of nothing that was noted
	ok(t, e)
	if n, e := x.All(); n != 2 || e != api.OK || x.Cursor() != 72 || x.Left() != 0 || len(x.Late()) != 0 {
		t.Errorf("All: %d, %d", n, e)
	}
	r.has(t)
	r.stands(t, 0, 2)
}

// TestAHandBehindAllTimes: where no record is due later, each is late.
func TestAHandBehindAllTimes(t *testing.T) {
	r := fresh(t, top)
	r.synced(t, dues(top, top-1, 0)...)
	for range 3 {
		_, did, e := r.timers.Next(math.MaxInt)
		if !did || e != api.OK {
			t.Fatal(did, e)
		}
	}
	r.goesOn(t, 3)
	r.lateAre(t, 0, 36, 72)
	if r.timers.Len() != 0 {
		t.Error(r.timers.Len())
	}
}
