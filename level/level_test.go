package level_test

import (
	"math"
	"reflect"
	"slices"
	"strings"
	"testing"

	"reveille/api"
	"reveille/crc"
	"reveille/level"
	"reveille/rec"
)

// All tests of this package hold promise P12.1: all are what the chapter says; what comes again is a right record, due no earlier than its delay.

// last is the last time, and number, that may be asked for: 2^40 - 1000.
const last = 1099511626776

var (
	// outside are times, and numbers, that may not be asked for.
	outside = []int{-1, -2, -16, math.MinInt, math.MinInt + 1, last + 1, last + 2, 1<<40 - 1, 1 << 40, 1<<40 + 1, 1 << 48, 1<<62 + 5, math.MaxInt - 1, math.MaxInt}
	// within are some that may be.
	within = []int{0, 1, 15, 16, 17, 200, 1000, 1 << 32, last - 200, last - 1, last}
	// noGroups are texts that are no group.
	noGroups = []string{"", " ", "G", "g ", " g", "g h", "g_", "%retry%g", "%dead%g", "%", "*", "ninesigns", "abcdefghijklmnop", "é", "g\x00", "\xff", "g\n", strings.Repeat("g", 1<<16)}
	groups   = []string{"g", "a", "0", "-", "group-12", "zzzzzzzz", "--------", "00000000"}
)

// message is a right record that can fail, with something in each place where it may have it.
func message(retry int) api.Msg {
	return api.Msg{Kind: api.Message, Queue: 2, Retry: retry, Born: 70, Topic: "orders", Tag: "x", Body: "a body\x00\xff", Keys: []string{"K1", "k~!"}}
}

// delivery is another one.
func delivery(retry int) api.Msg {
	m := message(retry)
	m.Kind, m.Due, m.Ref = api.Delivery, 69, 4096
	return m
}

// bare is a right record with no more than it must have.
func bare(kind int) api.Msg { return api.Msg{Kind: kind, Topic: "a"} }

// equal tells whether two records are one: an empty list and no list are.
func equal(a, b api.Msg) bool {
	if len(a.Keys)+len(b.Keys) == 0 {
		a.Keys, b.Keys = nil, nil
	}
	return reflect.DeepEqual(a, b)
}

// again is what comes of a record that can fail; it is right, and has a record's bytes.
func again(t *testing.T, m api.Msg, id int, group string, now int) api.Msg {
	t.Helper()
	x, e := level.Again(m, id, group, now)
	if e != api.OK {
		t.Fatalf("Again of %+v, %d, %q, %d: %d", m, id, group, now, e)
	}
	table := crc.New()
	s, e := rec.Put(table, x)
	back, _, wrong := rec.Get(table, s)
	if !rec.Right(x) || e != api.OK || wrong != api.OK || !equal(back, x) {
		t.Fatalf("of %+v comes what isn't right: %+v, %d, %d", m, x, e, wrong)
	}
	return x
}

// comes fails, if of a record doesn't come just what is wanted.
func comes(t *testing.T, m api.Msg, id int, group string, now int, want api.Msg) {
	t.Helper()
	if x := again(t, m, id, group, now); !equal(x, want) {
		t.Errorf("of %+v, %d, %q, %d comes %+v, not %+v", m, id, group, now, x, want)
	}
}

// isRefused fails, if Again doesn't tell this error, and nothing else.
func isRefused(t *testing.T, want api.Errno, m api.Msg, id int, group string, now int) {
	t.Helper()
	if x, e := level.Again(m, id, group, now); !reflect.DeepEqual(x, api.Msg{}) || e != want {
		t.Errorf("Again of %+v, %d, %.40q, %d: %+v, %d, not %d", m, id, group, now, x, e, want)
	}
}

func TestDelay(t *testing.T) {
	if level.Delay(3) != 8 {
		t.Error("the chapter's example")
	}
	for n, want := range []int{0, 2, 4, 8, 16, 0, 0, 0, 0} {
		if got := level.Delay(n); got != want {
			t.Errorf("Delay(%d) is %d", n, got)
		}
	}
	for _, n := range []int{-1, -2, -3, -4, -5, 10, 31, 32, 33, 61, 62, 63, 64, 65, 68, 255, 257, 260, 1<<8 + 1, 1<<16 + 2, 1<<32 + 1, 1<<32 + 4, 1<<62 + 3, math.MaxInt, math.MinInt, math.MinInt + 1, math.MinInt + 4} {
		if got := level.Delay(n); got != 0 {
			t.Errorf("Delay(%d) is %d", n, got)
		}
	}
}

func TestEachLevelComesAgain(t *testing.T) {
	for retry, delay := range []int{2, 4, 8, 16} {
		for _, m := range []api.Msg{message(retry), delivery(retry)} {
			comes(t, m, 1024, "g", 100, api.Msg{
				Kind: api.Scheduled, Due: 100 + delay, Retry: retry + 1, Ref: 1024, Born: 100,
				Topic: "%retry%g", Tag: "x", Body: "a body\x00\xff", Keys: []string{"K1", "k~!"},
			})
		}
	}
}

func TestBehindTheLastLevelItIsGivenUp(t *testing.T) {
	for _, m := range []api.Msg{message(4), delivery(4)} {
		comes(t, m, 1024, "g", 100, api.Msg{
			Kind: api.Message, Retry: 4, Born: 100,
			Topic: "%dead%g", Tag: "x", Body: "a body\x00\xff", Keys: []string{"K1", "k~!"},
		})
	}
}

func TestBareRecords(t *testing.T) {
	for _, kind := range []int{api.Message, api.Delivery} {
		for _, keys := range [][]string{nil, {}} {
			m := bare(kind)
			m.Keys = keys
			comes(t, m, 0, "g", 0, api.Msg{Kind: api.Scheduled, Due: 2, Retry: 1, Topic: "%retry%g"})
			m.Retry = 4
			comes(t, m, 0, "g", 0, api.Msg{Kind: api.Message, Retry: 4, Topic: "%dead%g"})
		}
	}
}

// TestFullRecords: with as much as a record may have, at the greatest numbers.
func TestFullRecords(t *testing.T) {
	body, tag := strings.Repeat("\xa5", 200), strings.Repeat("z", 16)
	keys := []string{strings.Repeat("!", 16), strings.Repeat("~", 16), "\"'\\#$%&*+,-./:;<"}
	for _, topic := range []string{strings.Repeat("t", 16), "%retry%group-12", "%dead%zzzzzzzz"} {
		m := api.Msg{Kind: api.Delivery, Queue: 2, Due: 1 << 40, Retry: 3, Ref: 1 << 40, Born: 1 << 40, Topic: topic, Tag: tag, Body: body, Keys: keys}
		comes(t, m, last, "group-12", last, api.Msg{Kind: api.Scheduled, Due: last + 16, Retry: 4, Ref: last, Born: last, Topic: "%retry%group-12", Tag: tag, Body: body, Keys: keys})
		m.Retry = 4
		comes(t, m, last, "group-12", last, api.Msg{Kind: api.Message, Retry: 4, Born: last, Topic: "%dead%group-12", Tag: tag, Body: body, Keys: keys})
	}
}

func TestEachGroup(t *testing.T) {
	for _, group := range groups {
		comes(t, bare(api.Message), 7, group, 30, api.Msg{Kind: api.Scheduled, Due: 32, Retry: 1, Ref: 7, Born: 30, Topic: "%retry%" + group})
		m := bare(api.Message)
		m.Retry = 4
		comes(t, m, 7, group, 30, api.Msg{Kind: api.Message, Retry: 4, Born: 30, Topic: "%dead%" + group})
	}
}

// TestTheTopicAndQueueOfWhatFailedAreLeft: also where it failed in another group, or was given up there.
func TestTheTopicAndQueueOfWhatFailedAreLeft(t *testing.T) {
	for _, topic := range []string{"a", "g", "retry", "%retry%g", "%retry%h", "%dead%g", "%dead%h"} {
		for queue := range 3 {
			m := message(1)
			m.Topic, m.Queue = topic, queue
			if x := again(t, m, 5, "g", 9); x.Topic != "%retry%g" || x.Queue != 0 || x.Due != 13 {
				t.Errorf("of %q, %d comes %+v", topic, queue, x)
			}
			m.Retry = 4
			if x := again(t, m, 5, "g", 9); x.Topic != "%dead%g" || x.Queue != 0 || x.Due != 0 {
				t.Errorf("of %q, %d comes %+v", topic, queue, x)
			}
		}
	}
}

func TestItComesNoEarlierThanItsDelay(t *testing.T) {
	for _, now := range within {
		for _, id := range within {
			for retry := range 4 {
				for _, m := range []api.Msg{message(retry), delivery(retry)} {
					x := again(t, m, id, "g", now)
					if x.Due-now != level.Delay(retry+1) || x.Due-now != 2<<retry || x.Born != now || x.Ref != id {
						t.Errorf("at %d of %d comes %+v", now, id, x)
					}
				}
			}
			if x := again(t, delivery(4), id, "g", now); x.Born != now || x.Due != 0 || x.Ref != 0 {
				t.Errorf("at %d of %d comes %+v", now, id, x)
			}
		}
	}
}

// TestWhatFailsAgainAndAgain: four times it comes, then it stands in the dead topic.
func TestWhatFailsAgainAndAgain(t *testing.T) {
	m, now := message(0), 1000
	for i, delay := range []int{2, 4, 8, 16} {
		x := again(t, m, 10+i, "g", now)
		if x.Kind != api.Scheduled || x.Retry != i+1 || x.Due != now+delay || x.Ref != 10+i {
			t.Errorf("time %d: %+v", i, x)
		}
		now = x.Due + 1
		m = x
		m.Kind, m.Ref, m.Born = api.Delivery, 20+i, now // as a dequeuer delivers it
	}
	dead := again(t, m, 14, "g", now)
	want := api.Msg{Kind: api.Message, Retry: 4, Born: now, Topic: "%dead%g", Tag: "x", Body: "a body\x00\xff", Keys: []string{"K1", "k~!"}}
	if now != 1034 || !equal(dead, want) {
		t.Errorf("at %d: %+v", now, dead)
	}
	want.Born = 2000
	comes(t, dead, 15, "g", 2000, want) // there it stays
}

func TestNoGroup(t *testing.T) {
	for _, group := range noGroups {
		for retry := range 5 {
			isRefused(t, api.ErrName, message(retry), 5, group, 100)
			isRefused(t, api.ErrName, delivery(retry), 0, group, 0)
		}
	}
}

func TestTheGroupIsAskedFirst(t *testing.T) {
	for _, group := range noGroups {
		isRefused(t, api.ErrName, api.Msg{}, 5, group, 100)
		isRefused(t, api.ErrName, message(5), 5, group, 100)
		isRefused(t, api.ErrName, message(0), -1, group, 100)
		isRefused(t, api.ErrName, message(0), 5, group, last+1)
		isRefused(t, api.ErrName, api.Msg{Kind: api.Cancel}, -1, group, -1)
	}
}

func TestNumbersAndTimesOutside(t *testing.T) {
	for _, n := range outside {
		for retry := range 5 {
			for _, m := range []api.Msg{message(retry), delivery(retry)} {
				isRefused(t, api.ErrArg, m, n, "g", 100)
				isRefused(t, api.ErrArg, m, 5, "g", n)
				isRefused(t, api.ErrArg, m, n, "g", n)
				isRefused(t, api.ErrArg, m, last, "g", n)
				isRefused(t, api.ErrArg, m, n, "g", 0)
			}
		}
	}
}

// TestKindsThatDoNotFail: of right records, too.
func TestKindsThatDoNotFail(t *testing.T) {
	scheduled := delivery(2)
	scheduled.Kind = api.Scheduled
	for _, m := range []api.Msg{
		scheduled, bare(api.Scheduled), {Kind: api.Scheduled, Topic: "a", Retry: 4},
		{Kind: api.Cancel}, {Kind: api.Cancel, Ref: 7, Born: 9},
		{}, {Body: "\x00\x00\x00"}, {Body: strings.Repeat("\x00", 1024)},
	} {
		if !rec.Right(m) {
			t.Fatalf("%+v isn't right", m)
		}
		isRefused(t, api.ErrArg, m, 5, "g", 100)
	}
	for _, kind := range []int{-1, 5, 6, 255, 257, 259, 1<<32 + 1, 1<<32 + 3, math.MaxInt, math.MinInt, math.MinInt + 1} {
		isRefused(t, api.ErrArg, bare(kind), 5, "g", 100)
	}
}

func TestRecordsThatAreNotRight(t *testing.T) {
	long := strings.Repeat("k", 17)
	for i, change := range []func(m *api.Msg){
		func(m *api.Msg) { m.Queue = -1 },
		func(m *api.Msg) { m.Queue = 3 },
		func(m *api.Msg) { m.Retry = -1 },
		func(m *api.Msg) { m.Retry = 5 },
		func(m *api.Msg) { m.Retry = math.MaxInt },
		func(m *api.Msg) { m.Retry = math.MinInt },
		func(m *api.Msg) { m.Born = -1 },
		func(m *api.Msg) { m.Born = 1<<40 + 1 },
		func(m *api.Msg) { m.Due = -1 },
		func(m *api.Msg) { m.Due = 1<<40 + 1 },
		func(m *api.Msg) { m.Ref = -1 },
		func(m *api.Msg) { m.Ref = 1<<40 + 1 },
		func(m *api.Msg) { m.Topic = "" },
		func(m *api.Msg) { m.Topic = "A" },
		func(m *api.Msg) { m.Topic = "%retry%" },
		func(m *api.Msg) { m.Topic = long },
		func(m *api.Msg) { m.Tag = "X" },
		func(m *api.Msg) { m.Tag = long },
		func(m *api.Msg) { m.Body = strings.Repeat("b", 201) },
		func(m *api.Msg) { m.Keys = []string{""} },
		func(m *api.Msg) { m.Keys = []string{"a b"} },
		func(m *api.Msg) { m.Keys = []string{long} },
		func(m *api.Msg) { m.Keys = []string{"a", "a"} },
		func(m *api.Msg) { m.Keys = []string{"a", "b", "c", "d"} },
	} {
		for retry := range 5 {
			for _, m := range []api.Msg{message(retry), delivery(retry)} {
				change(&m)
				if rec.Right(m) {
					t.Fatalf("row %d is right", i)
				}
				isRefused(t, api.ErrArg, m, 5, "g", 100)
			}
		}
	}
	for _, m := range []api.Msg{{Kind: api.Message, Topic: "a", Due: 1}, {Kind: api.Message, Topic: "a", Ref: 1}, {Kind: api.Message, Topic: "a", Due: 1 << 40, Retry: 4}} {
		isRefused(t, api.ErrArg, m, 5, "g", 100)
	}
}

func TestNoMemoryIsShared(t *testing.T) {
	for retry := range 5 {
		keys := []string{"a", "b", "left"}
		m := message(retry)
		m.Keys = keys[:2]
		one, two := again(t, m, 5, "g", 100), again(t, m, 5, "g", 100)
		one.Keys[0] = "x"
		_ = append(one.Keys, "y")
		if !slices.Equal(keys, []string{"a", "b", "left"}) || !slices.Equal(two.Keys, []string{"a", "b"}) {
			t.Errorf("Retry %d: %q, %q", retry, keys, two.Keys)
		}
		keys[1] = "z"
		if !slices.Equal(two.Keys, []string{"a", "b"}) {
			t.Errorf("Retry %d: %q", retry, two.Keys)
		}
	}
}
