package pend_test

import (
	"math"
	"reflect"
	"slices"
	"testing"

	"reveille/api"
	"reveille/pend"
)

// All tests of this package hold promise P17.1: all are what the chapter says.

// kinds are the kinds of records, and some that are none.
var kinds = []int{api.Filler, api.Message, api.Scheduled, api.Delivery, api.Cancel, -1, -2, 5, 6, 258, math.MinInt, math.MaxInt}

func scheduled(due int) api.Msg { return api.Msg{Kind: api.Scheduled, Topic: "a", Due: due} }
func delivery(ref int) api.Msg  { return api.Msg{Kind: api.Delivery, Topic: "a", Ref: ref} }
func cancel(ref int) api.Msg    { return api.Msg{Kind: api.Cancel, Topic: "a", Ref: ref} }

// at is a record that is to be noted.
type at struct {
	id int
	m  api.Msg
}

// noted is a set in which these were noted, each of which is to change something.
func noted(t *testing.T, l ...at) *pend.Set {
	t.Helper()
	s := pend.New()
	for _, x := range l {
		if !s.Note(x.id, x.m) {
			t.Fatalf("Note of %d, %+v: false", x.id, x.m)
		}
	}
	return s
}

// each is a set with one record in each state: 1 waits, due at 70, 2 came, 3 is gone; 4 wasn't noted.
func each(t *testing.T) *pend.Set {
	t.Helper()
	return noted(t, at{1, scheduled(70)}, at{2, scheduled(80)}, at{3, scheduled(90)}, at{12, delivery(2)}, at{13, cancel(3)})
}

// stands fails, if a record doesn't stand so.
func stands(t *testing.T, s *pend.Set, id, state, due int) {
	t.Helper()
	if got, when := s.State(id), s.Due(id); got != state || when != due {
		t.Errorf("the state of %d: %d, due at %d, not %d, %d", id, got, when, state, due)
	}
}

// counted fails, if not so many are in each state.
func counted(t *testing.T, s *pend.Set, waits, came, gone int) {
	t.Helper()
	if a, b, c := s.Counts(); a != waits || b != came || c != gone {
		t.Errorf("Counts: %d, %d, %d, not %d, %d, %d", a, b, c, waits, came, gone)
	}
}

// waiting fails, if just these aren't pending, in this order.
func waiting(t *testing.T, s *pend.Set, want ...int) {
	t.Helper()
	if l := s.Pending(); !slices.Equal(l, want) {
		t.Errorf("Pending: %v, not %v", l, want)
	}
}

// unchanged fails, if the set isn't as each makes it.
func unchanged(t *testing.T, s *pend.Set) {
	t.Helper()
	stands(t, s, 1, pend.Waits, 70)
	stands(t, s, 2, pend.Came, 0)
	stands(t, s, 3, pend.Gone, 0)
	stands(t, s, 4, pend.None, 0)
	waiting(t, s, 1)
	counted(t, s, 1, 1, 1)
}

func TestTheStatesAreAsTheChapterNumbersThem(t *testing.T) {
	if got := [...]int{pend.None, pend.Waits, pend.Came, pend.Gone}; got != [...]int{0, 1, 2, 3} {
		t.Error(got)
	}
}

func TestTheChaptersExample(t *testing.T) {
	s := noted(t, at{5, scheduled(9)}, at{6, delivery(5)})
	if s.Note(7, cancel(5)) {
		t.Error("a delivered record was cancelled")
	}
	stands(t, s, 5, pend.Came, 0)
	waiting(t, s)
	counted(t, s, 0, 1, 0)
}

func TestANewSetHasNothing(t *testing.T) {
	s := pend.New()
	waiting(t, s)
	counted(t, s, 0, 0, 0)
	for _, id := range []int{0, 1, -1, math.MinInt, math.MaxInt} {
		stands(t, s, id, pend.None, 0)
	}
	s.Trim(5)
	counted(t, s, 0, 0, 0)
}

func TestSetsAreOnTheirOwn(t *testing.T) {
	a, b := pend.New(), pend.New()
	a.Note(5, scheduled(9))
	stands(t, b, 5, pend.None, 0)
	b.Note(5, scheduled(8))
	b.Note(6, cancel(5))
	stands(t, a, 5, pend.Waits, 9)
}

func TestAScheduledRecordIsPending(t *testing.T) {
	for _, id := range []int{0, 1, 41, 1 << 40, 1<<40 + 1, math.MaxInt} {
		s := noted(t, at{id, scheduled(70)})
		stands(t, s, id, pend.Waits, 70)
		waiting(t, s, id)
		counted(t, s, 1, 0, 0)
	}
}

func TestItIsDelivered(t *testing.T) {
	s := noted(t, at{0, scheduled(70)}, at{9, scheduled(60)}, at{20, delivery(0)})
	stands(t, s, 0, pend.Came, 0)
	stands(t, s, 9, pend.Waits, 60)
	stands(t, s, 20, pend.None, 0) // a delivery's number is none of what is pending
	waiting(t, s, 9)
	counted(t, s, 1, 1, 0)
}

func TestItIsCancelled(t *testing.T) {
	s := noted(t, at{0, scheduled(70)}, at{9, scheduled(60)}, at{20, cancel(9)})
	stands(t, s, 0, pend.Waits, 70)
	stands(t, s, 9, pend.Gone, 0)
	stands(t, s, 20, pend.None, 0)
	waiting(t, s, 0)
	counted(t, s, 1, 0, 1)
}

// What comes first holds: nothing changes what came, or is gone.
func TestWhatIsOverStays(t *testing.T) {
	s := each(t)
	for _, id := range []int{2, 3} {
		for _, m := range []api.Msg{delivery(id), cancel(id)} {
			for _, number := range []int{14, 1, 4, id} {
				if s.Note(number, m) {
					t.Errorf("%+v, noted as %d, changed something", m, number)
				}
			}
		}
		if s.Note(id, scheduled(5)) {
			t.Errorf("%d was noted as scheduled again", id)
		}
	}
	unchanged(t, s)
}

func TestANumberIsNotedAsScheduledOnce(t *testing.T) {
	s := each(t)
	for _, m := range []api.Msg{scheduled(70), scheduled(5), scheduled(500), scheduled(0), {Kind: api.Scheduled, Ref: 3, Due: 4, Body: "other"}} {
		if s.Note(1, m) {
			t.Errorf("%+v changed something", m)
		}
	}
	unchanged(t, s)
}

// Of other kinds, and of what is no kind, nothing is noted, whatever their Ref is.
func TestOtherKindsChangeNothing(t *testing.T) {
	s := each(t)
	for _, k := range kinds {
		if k == api.Scheduled || k == api.Delivery || k == api.Cancel {
			continue
		}
		for _, ref := range []int{0, 1, 2, 3, 4} {
			for _, id := range []int{0, 1, 2, 3, 4, 20} {
				if s.Note(id, api.Msg{Kind: k, Ref: ref, Due: 100}) {
					t.Errorf("kind %d of %d, noted as %d, changed something", k, ref, id)
				}
			}
		}
	}
	unchanged(t, s)
}

func TestARefThatIsNoScheduledRecordsChangesNothing(t *testing.T) {
	s := each(t)
	s.Note(21, api.Msg{Kind: api.Message, Topic: "a"})
	for _, ref := range []int{0, 4, 12, 13, 21, 20, -1, -2, 1 << 40, math.MinInt, math.MaxInt} {
		for _, m := range []api.Msg{delivery(ref), cancel(ref)} {
			if s.Note(20, m) {
				t.Errorf("%+v changed something", m)
			}
			stands(t, s, ref, pend.None, 0)
		}
	}
	unchanged(t, s)
}

// What is noted ahead of the record that it speaks of changed nothing, and changes nothing later.
func TestARefThatIsNotedLaterChangesNothing(t *testing.T) {
	s := pend.New()
	if s.Note(8, delivery(5)) || s.Note(9, cancel(6)) {
		t.Error("of what wasn't noted something changed")
	}
	if !s.Note(5, scheduled(70)) || !s.Note(6, scheduled(60)) {
		t.Error("a record that comes behind what speaks of it isn't noted")
	}
	waiting(t, s, 6, 5)
	counted(t, s, 2, 0, 0)
}

func TestTheRefOfAScheduledRecordChangesNothing(t *testing.T) {
	s := each(t)
	for i, ref := range []int{1, 2, 3, 4, 30, 31, -1, math.MaxInt, 0} {
		m := scheduled(200)
		m.Ref = ref
		if !s.Note(30+i, m) {
			t.Errorf("%+v isn't noted", m)
		}
		stands(t, s, 30+i, pend.Waits, 200)
	}
	stands(t, s, 1, pend.Waits, 70)
	stands(t, s, 2, pend.Came, 0)
	stands(t, s, 3, pend.Gone, 0)
	stands(t, s, 4, pend.None, 0)
	counted(t, s, 10, 1, 1)
}

// A number below 0 isn't noted, whatever the record is: also where its Ref is one that is pending.
func TestNumbersBelowNoughtAreNotNoted(t *testing.T) {
	s := each(t)
	for _, id := range []int{-1, -2, -1 << 40, math.MinInt, math.MinInt + 1} {
		for _, k := range kinds {
			for _, ref := range []int{0, 1, 2, 3, 4, id} {
				if s.Note(id, api.Msg{Kind: k, Ref: ref, Due: 100, Topic: "a"}) {
					t.Errorf("%d, of kind %d, of %d, changed something", id, k, ref)
				}
			}
		}
		stands(t, s, id, pend.None, 0)
	}
	unchanged(t, s)
}

// Nothing but a record's kind, its Ref and when it is due is of account: also what is no right record is noted.
func TestNothingElseIsOfAccount(t *testing.T) {
	more := func(m api.Msg) api.Msg {
		m.Queue, m.Retry, m.Born, m.Topic, m.Tag, m.Body, m.Keys = 7, 9, 1000, "", "NO TAG", "some text", []string{"k", "k"}
		return m
	}
	late := more(delivery(5))
	late.Due = 1 << 50
	s := noted(t, at{5, more(scheduled(70))}, at{6, more(scheduled(60))}, at{7, late}, at{7, more(cancel(6))})
	stands(t, s, 5, pend.Came, 0)
	stands(t, s, 6, pend.Gone, 0)
}

// A delivery, and a cancel, may have any number from 0 on: also one that is pending, or that of what they speak of.
func TestTheNumberOfWhatSpeaksOfARecordIsNotOfAccount(t *testing.T) {
	for _, id := range []int{0, 1, 3, 5, 6, math.MaxInt} {
		s := noted(t, at{5, scheduled(70)}, at{6, scheduled(60)}, at{id, delivery(5)}, at{id, cancel(6)})
		stands(t, s, 5, pend.Came, 0)
		stands(t, s, 6, pend.Gone, 0)
		counted(t, s, 0, 1, 1)
	}
}

func TestDueIsOfWhatIsPendingAlone(t *testing.T) {
	for _, due := range []int{1, 0, 70, 1 << 40, 1<<40 + 1, -1, math.MinInt, math.MaxInt} {
		s := noted(t, at{5, scheduled(due)})
		stands(t, s, 5, pend.Waits, due)
		s.Note(6, delivery(5))
		stands(t, s, 5, pend.Came, 0)
		s = noted(t, at{5, scheduled(due)}, at{6, cancel(5)})
		stands(t, s, 5, pend.Gone, 0)
	}
}

func TestPendingIsByWhenTheyAreDueThenByNumber(t *testing.T) {
	for _, c := range []struct {
		l    []at
		want []int
	}{
		{nil, nil},
		{[]at{{7, scheduled(70)}}, []int{7}},
		{[]at{{1, scheduled(70)}, {2, scheduled(60)}, {3, scheduled(80)}}, []int{2, 1, 3}},
		{[]at{{9, scheduled(70)}, {2, scheduled(70)}, {30, scheduled(70)}, {0, scheduled(70)}}, []int{0, 2, 9, 30}},
		{[]at{{9, scheduled(70)}, {2, scheduled(70)}, {30, scheduled(69)}, {0, scheduled(71)}}, []int{30, 2, 9, 0}},
		{[]at{{1, scheduled(math.MaxInt)}, {2, scheduled(math.MinInt)}, {3, scheduled(0)}, {4, scheduled(-1)}, {5, scheduled(1)}}, []int{2, 4, 3, 5, 1}},
		{[]at{{math.MaxInt, scheduled(5)}, {0, scheduled(5)}, {1 << 40, scheduled(5)}}, []int{0, 1 << 40, math.MaxInt}},
		{[]at{{1, scheduled(70)}, {2, scheduled(60)}, {3, scheduled(50)}, {4, delivery(2)}, {5, scheduled(40)}, {6, cancel(5)}}, []int{3, 1}},
	} {
		waiting(t, noted(t, c.l...), c.want...)
	}
}

func TestWhatIsAnsweredSharesNoMemory(t *testing.T) {
	s := noted(t, at{1, scheduled(70)}, at{2, scheduled(60)}, at{3, scheduled(80)})
	l, other := s.Pending(), s.Pending()
	l[0], l[1], l[2] = 3, 3, 3
	if !slices.Equal(other, []int{2, 1, 3}) {
		t.Errorf("one answer changed another: %v", other)
	}
	_ = append(other[:1], 9, 9)
	waiting(t, s, 2, 1, 3)
	counted(t, s, 3, 0, 0)
}

func TestNoArgumentIsWrittenIntoOrKept(t *testing.T) {
	m := scheduled(70)
	m.Keys = []string{"k", "l"}
	want := m
	want.Keys = slices.Clone(m.Keys)
	s := noted(t, at{1, m})
	if !reflect.DeepEqual(m, want) {
		t.Errorf("%+v, not %+v", m, want)
	}
	m.Due, m.Kind, m.Keys[0] = 5, api.Message, "other"
	stands(t, s, 1, pend.Waits, 70)
}

func TestTrimForgetsTheNumbersBelow(t *testing.T) {
	for _, c := range []struct {
		begin             int
		kept              []int
		waits, came, gone int
	}{
		{math.MinInt, []int{10, 20, 30, 40}, 2, 1, 1},
		{-1, []int{10, 20, 30, 40}, 2, 1, 1},
		{0, []int{10, 20, 30, 40}, 2, 1, 1},
		{10, []int{10, 20, 30, 40}, 2, 1, 1},
		{11, []int{20, 30, 40}, 1, 1, 1},
		{20, []int{20, 30, 40}, 1, 1, 1},
		{21, []int{30, 40}, 1, 0, 1},
		{30, []int{30, 40}, 1, 0, 1},
		{31, []int{40}, 1, 0, 0},
		{40, []int{40}, 1, 0, 0},
		{41, nil, 0, 0, 0},
		{math.MaxInt, nil, 0, 0, 0},
	} {
		s := noted(t, at{10, scheduled(70)}, at{20, scheduled(70)}, at{30, scheduled(70)}, at{40, scheduled(60)}, at{51, delivery(20)}, at{52, cancel(30)})
		s.Trim(c.begin)
		for id, state := range map[int]int{10: pend.Waits, 20: pend.Came, 30: pend.Gone, 40: pend.Waits} {
			if slices.Contains(c.kept, id) != (s.State(id) == state) || s.State(id) != state && s.State(id) != pend.None {
				t.Errorf("trimmed up to %d, the state of %d is %d", c.begin, id, s.State(id))
			}
		}
		counted(t, s, c.waits, c.came, c.gone)
		var want []int
		for _, id := range []int{40, 10} {
			if slices.Contains(c.kept, id) {
				want = append(want, id)
			}
		}
		waiting(t, s, want...)
	}
	s := noted(t, at{0, scheduled(70)}, at{math.MaxInt, scheduled(60)})
	s.Trim(1)
	stands(t, s, 0, pend.None, 0)
	s.Trim(math.MaxInt)
	waiting(t, s, math.MaxInt)
}

func TestWhatWasTrimmedIsAsIfItHadNotBeenNoted(t *testing.T) {
	s := noted(t, at{10, scheduled(70)}, at{20, scheduled(60)}, at{25, delivery(20)}, at{30, scheduled(50)}, at{35, cancel(30)}, at{40, scheduled(40)})
	s.Trim(40)
	for _, id := range []int{10, 20, 30} {
		stands(t, s, id, pend.None, 0)
		if s.Note(50, delivery(id)) || s.Note(51, cancel(id)) {
			t.Errorf("%d changed, and was trimmed", id)
		}
	}
	if !s.Note(10, scheduled(7)) || !s.Note(20, scheduled(8)) || !s.Note(52, cancel(20)) || s.Note(40, scheduled(5)) {
		t.Error("what was trimmed can't be noted anew, or what wasn't can")
	}
	stands(t, s, 10, pend.Waits, 7)
	stands(t, s, 20, pend.Gone, 0)
	waiting(t, s, 10, 40)
	s.Trim(0) // nothing goes on from an earlier call
	waiting(t, s, 10, 40)
	counted(t, s, 2, 0, 1)
}

// A delivery, and a cancel, that lie below stay told of what lies behind.
func TestTrimForgetsNothingOfWhatLiesBehind(t *testing.T) {
	s := noted(t, at{10, scheduled(70)}, at{20, scheduled(60)}, at{4, delivery(10)}, at{5, cancel(20)})
	s.Trim(10)
	stands(t, s, 10, pend.Came, 0)
	stands(t, s, 20, pend.Gone, 0)
}

func TestNilHasNothing(t *testing.T) {
	var s *pend.Set
	for _, k := range kinds {
		if s.Note(5, api.Msg{Kind: k, Ref: 5, Due: 7}) || s.Note(-5, api.Msg{Kind: k}) {
			t.Errorf("of kind %d something changed", k)
		}
	}
	s.Trim(1)
	stands(t, s, 5, pend.None, 0)
	stands(t, s, -5, pend.None, 0)
	waiting(t, s)
	counted(t, s, 0, 0, 0)
}

// A Set that New didn't make is an empty one.
func TestASetOfNoMakingIsEmpty(t *testing.T) {
	s := &pend.Set{}
	s.Trim(7)
	stands(t, s, 5, pend.None, 0)
	waiting(t, s)
	counted(t, s, 0, 0, 0)
	if s.Note(5, delivery(5)) || !s.Note(5, scheduled(9)) || !s.Note(6, cancel(5)) {
		t.Error("it doesn't note as it should")
	}
	stands(t, s, 5, pend.Gone, 0)
	counted(t, s, 0, 0, 1)
}
