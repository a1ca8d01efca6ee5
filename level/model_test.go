package level_test

import (
	"math"
	"math/big"
	"math/rand"
	"reflect"
	"regexp"
	"slices"
	"strings"
	"testing"

	"reveille/api"
	"reveille/level"
	"reveille/rec"
)

// What is here says the chapter's words once more, in other ways, to hold the package against.

var groupForm = regexp.MustCompile(`^[a-z0-9-]{1,8}\z`)

// isTime tells whether a number is from 0 to 2^40 - 1000.
func isTime(n int) bool {
	bound := new(big.Int).Lsh(big.NewInt(1), 40)
	bound.Sub(bound, big.NewInt(1000))
	x := big.NewInt(int64(n))
	return x.Sign() >= 0 && x.Cmp(bound) <= 0
}

// plainAgain changes a copy of what failed into what comes, place by place.
func plainAgain(m api.Msg, id int, group string, now int) (api.Msg, api.Errno) {
	if !groupForm.MatchString(group) {
		return api.Msg{}, api.ErrName
	}
	if !rec.Right(m) || m.Kind%2 == 0 || !isTime(id) || !isTime(now) {
		return api.Msg{}, api.ErrArg
	}
	m.Keys = slices.Clone(m.Keys)
	m.Queue, m.Born = 0, now
	delays := map[int]int{0: 2, 1: 4, 2: 8, 3: 16}
	if delay, ok := delays[m.Retry]; ok {
		m.Kind, m.Topic, m.Due, m.Ref, m.Retry = 2, "%retry%"+group, now+delay, id, m.Retry+1
		return m, api.OK
	}
	m.Kind, m.Topic, m.Due, m.Ref = 1, "%dead%"+group, 0, 0
	return m, api.OK
}

// difference is how much later a time is, in numbers of any size.
func difference(due, now int) *big.Int {
	return new(big.Int).Sub(big.NewInt(int64(due)), big.NewInt(int64(now)))
}

// holdAgain holds what comes of a record against the chapter's words; the record stays as it was.
func holdAgain(t *testing.T, m api.Msg, id int, group string, now int) api.Errno {
	t.Helper()
	before := m
	before.Keys = slices.Clone(m.Keys)
	x, e := level.Again(m, id, group, now)
	if want, wrong := plainAgain(before, id, group, now); !equal(x, want) || e != wrong {
		t.Fatalf("Again of %+v, %d, %q, %d: %+v, %d, not %+v, %d", m, id, group, now, x, e, want, wrong)
	}
	if !reflect.DeepEqual(m, before) {
		t.Fatalf("%+v was written into: %+v", before, m)
	}
	if e == api.OK && !rec.Right(x) {
		t.Fatalf("%+v, which comes of %+v, isn't right", x, m)
	}
	return e
}

// holdTimes holds the calls of two times against the chapter's words.
func holdTimes(t *testing.T, due, now int) {
	t.Helper()
	off, sixteen := difference(due, now), big.NewInt(16)
	laps, far := new(big.Int), off.Cmp(sixteen) >= 0
	if off.Sign() > 0 {
		laps.Div(off, sixteen)
	}
	if got := level.Laps(due, now); !laps.IsInt64() || int64(got) != laps.Int64() {
		t.Fatalf("Laps(%d, %d) is %d, not %s", due, now, got, laps)
	}
	if got := level.Far(due, now); got != far {
		t.Fatalf("Far(%d, %d) is %v", due, now, got)
	}
	slot := due & 15
	if due < 0 {
		slot = 0
	}
	if got := level.Slot(due); got != slot {
		t.Fatalf("Slot(%d) is %d, not %d", due, got, slot)
	}
	want, wrong := due, api.OK
	switch {
	case !isTime(now):
		want, wrong = 0, api.ErrArg
	case off.Cmp(big.NewInt(200)) > 0:
		want, wrong = 0, api.ErrDue
	case off.Sign() < 0:
		want = now
	}
	if got, e := level.Due(due, now); got != want || e != wrong {
		t.Fatalf("Due(%d, %d) is %d, %d, not %d, %d", due, now, got, e, want, wrong)
	}
}

// one is one of a list, by chance: the first one far more often than the others.
func one[T any](r *rand.Rand, l ...T) T {
	if r.Intn(16) > 0 {
		return l[0]
	}
	return l[r.Intn(len(l))]
}

// anyTime is by chance one that may be asked for, or not.
func anyTime(r *rand.Rand) int {
	return one(r, r.Intn(last+1)>>r.Intn(40), 0, last, last+1, 1<<40, -1, math.MaxInt, math.MinInt)
}

// anyRecord is by chance right, or wrong in one place or another.
func anyRecord(r *rand.Rand) api.Msg {
	long := strings.Repeat("k", 17)
	m := api.Msg{
		Kind:  one(r, api.Message, api.Delivery, api.Scheduled, api.Cancel, api.Filler, 5, -1),
		Queue: one(r, r.Intn(3), -1, 3),
		Retry: one(r, r.Intn(5), -1, 5),
		Born:  one(r, r.Intn(1<<40+1), 0, 1<<40, 1<<40+1, -1),
		Topic: one(r, []string{"a", "orders", "%dead%g", "%retry%x-1"}[r.Intn(4)], "", "A", "%retry%", long),
		Tag:   one(r, []string{"", "x"}[r.Intn(2)], "X", long),
		Body:  one(r, strings.Repeat("\xa5", r.Intn(201)), strings.Repeat("b", 201)),
	}
	for range r.Intn(4) {
		m.Keys = append(m.Keys, one(r, string(rune('!'+r.Intn(94))), "a", "", " ", long, long[1:]))
	}
	if r.Intn(2) == 0 {
		m.Kind = api.Delivery
	}
	if m.Kind != api.Message || r.Intn(16) == 0 {
		m.Due, m.Ref = one(r, r.Intn(1<<40+1), 0, 1<<40, 1<<40+1, -1), one(r, r.Intn(1<<40+1), 0, 1<<40, 1<<40+1, -1)
	}
	return m
}

func TestAnyRecords(t *testing.T) {
	r := rand.New(rand.NewSource(12))
	told := map[api.Errno]int{}
	for range 30000 {
		group := one(r, groups[r.Intn(len(groups))], noGroups[r.Intn(len(noGroups))])
		told[holdAgain(t, anyRecord(r), anyTime(r), group, anyTime(r))]++
	}
	for _, e := range []api.Errno{api.OK, api.ErrName, api.ErrArg} {
		if told[e] < 500 {
			t.Errorf("%d was told just %d times", e, told[e])
		}
	}
}

// TestAnyTimes: also of times that lie near each other, or as far apart as may be.
func TestAnyTimes(t *testing.T) {
	r := rand.New(rand.NewSource(120))
	edges := append(slices.Concat(within, outside), 1<<62, -1<<62, 1<<63-16, -1<<63+16)
	for range 30000 {
		due, now := int(r.Uint64())>>r.Intn(64), int(r.Uint64())>>r.Intn(64)
		holdTimes(t, due, now)
		holdTimes(t, due+r.Intn(500)-250, due) // beyond an edge it stands at the other one
		edge := edges[r.Intn(len(edges))]
		holdTimes(t, edge, now)
		holdTimes(t, due, edge)
		holdTimes(t, edge+r.Intn(500)-250, edge)
		holdTimes(t, edge, edges[r.Intn(len(edges))])
	}
}

func FuzzAgain(f *testing.F) {
	f.Add(1, 2, 0, 0, 0, 7, "a", "x", "body", "K1", "K2", 2, 1024, "g", 100)
	f.Add(3, 0, 9, 4, 1<<40, 8, "%retry%g", "", "", "", "", 0, 0, "group-12", last)
	f.Add(3, 1, 9, 3, 5, 8, "%dead%g", "", "", "a", "a", 2, last+1, "g", 0)
	f.Add(2, 0, 9, 0, 0, 8, "a", "", "", "", "", 0, 5, "G", -1)
	f.Add(4, 0, 0, 0, 5, 1, "", "", "", "", "", 0, 5, "g", 5)
	f.Fuzz(func(t *testing.T, kind, queue, due, retry, ref, born int, topic, tag, body, a, b string, many, id int, group string, now int) {
		l := []string{a, b, a + b, b + a}
		m := api.Msg{Kind: kind, Queue: queue, Due: due, Retry: retry, Ref: ref, Born: born, Topic: topic, Tag: tag, Body: body, Keys: l[:min(max(many, 0), 4)]}
		holdAgain(t, m, id, group, now)
	})
}

func FuzzTimes(f *testing.F) {
	f.Add(0, 0)
	f.Add(116, 100)
	f.Add(301, 100)
	f.Add(last+200, last)
	f.Add(5, last+1)
	f.Add(math.MaxInt, math.MinInt)
	f.Add(math.MinInt, math.MaxInt)
	f.Fuzz(func(t *testing.T, due, now int) { holdTimes(t, due, now) })
}
