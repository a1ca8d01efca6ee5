package rec_test

import (
	"math"
	"strings"
	"testing"

	"reveille/api"
	"reveille/rec"
)

var (
	whole = []int{api.Message, api.Scheduled, api.Delivery} // the kinds that can be pulled, now or later
	every = []int{api.Filler, api.Message, api.Scheduled, api.Delivery, api.Cancel}
)

// of is a right record of a kind, as empty as it may be.
func of(kind int) api.Msg {
	m := api.Msg{Kind: kind}
	if kind == api.Message || kind == api.Scheduled || kind == api.Delivery {
		m.Topic = "a"
	}
	return m
}

// isRight fails, if a record isn't right, or not wrong; what is right is got back, but fillers of fewer than three.
func isRight(t *testing.T, m api.Msg, want bool) {
	t.Helper()
	if rec.Right(m) != want {
		t.Fatalf("%+v: right is %t", m, !want)
	}
	s, e := rec.Put(table, m)
	if !want || m.Kind == api.Filler && len(m.Body) < 3 {
		if s != "" || e != api.ErrArg {
			t.Fatalf("Put of %+v: %q, %d", m, s, e)
		}
		return
	}
	if e != api.OK {
		t.Fatalf("Put of %+v: %d", m, e)
	}
	gives(t, s, m, len(s))
}

func TestKinds(t *testing.T) {
	for _, kind := range every {
		isRight(t, of(kind), true)
	}
	isRight(t, filler(3), true)
	for _, kind := range []int{math.MinInt, -256, -255, -1, 5, 6, 255, 256, 257, 260, 1<<32 + 1, api.MaxNum, api.MaxNum + 1, math.MaxInt} {
		for _, m := range []api.Msg{{}, of(1), filler(3)} {
			m.Kind = kind
			isRight(t, m, false)
		}
	}
}

// number is where a number of a record stands, and which it may be in each kind.
type number struct {
	name  string
	at    func(m *api.Msg) *int
	right func(kind, n int) bool
}

func numbers() []number {
	upTo := func(n, most int) bool { return n >= 0 && n <= most }
	return []number{
		{"queue", func(m *api.Msg) *int { return &m.Queue }, func(kind, n int) bool { return n == 0 || kind%4 != 0 && upTo(n, 2) }},
		{"retry", func(m *api.Msg) *int { return &m.Retry }, func(kind, n int) bool { return n == 0 || kind%4 != 0 && upTo(n, 4) }},
		{"due", func(m *api.Msg) *int { return &m.Due }, func(kind, n int) bool {
			return n == 0 || (kind == api.Scheduled || kind == api.Delivery) && upTo(n, 1<<40)
		}},
		{"ref", func(m *api.Msg) *int { return &m.Ref }, func(kind, n int) bool { return n == 0 || kind >= api.Scheduled && upTo(n, 1<<40) }},
		{"born", func(m *api.Msg) *int { return &m.Born }, func(kind, n int) bool { return n == 0 || kind != api.Filler && upTo(n, 1<<40) }},
	}
}

func TestNumbersAtTheirEdges(t *testing.T) {
	for _, x := range numbers() {
		for _, kind := range every {
			for _, n := range []int{
				0, 1, 2, 3, 4, 5, 6, 255, 256, 1<<40 - 1, 1 << 40, 1<<40 + 1, 1<<41 - 1, 1<<48 - 1, 1 << 48, math.MaxInt,
				-1, -2, -256, -1 << 40, -1<<48 + 1, -1 << 48, math.MinInt + 1, math.MinInt,
			} {
				m := of(kind)
				*x.at(&m) = n
				if rec.Right(m) != x.right(kind, n) {
					t.Errorf("kind %d, %s %d: right is %t", kind, x.name, n, rec.Right(m))
				}
				isRight(t, m, x.right(kind, n))
			}
		}
	}
}

func TestDueAndRef(t *testing.T) {
	for _, c := range []struct {
		kind, due, ref int
		want           bool
	}{
		{api.Message, 0, 0, true}, {api.Message, 1, 0, false}, {api.Message, 0, 1, false}, {api.Message, 1, 1, false},
		{api.Scheduled, 0, 0, true}, {api.Scheduled, 7, 0, true}, {api.Scheduled, 0, 7, true}, {api.Scheduled, 1 << 40, 1 << 40, true},
		{api.Delivery, 0, 0, true}, {api.Delivery, 7, 0, true}, {api.Delivery, 0, 7, true}, {api.Delivery, 8, 7, true}, {api.Delivery, 1 << 40, 1 << 40, true},
		{api.Delivery, 8, 1<<40 + 1, false}, {api.Delivery, -1, 7, false}, {api.Scheduled, 7, -1, false},
		{api.Cancel, 0, 0, true}, {api.Cancel, 0, 1 << 40, true}, {api.Cancel, 1, 0, false},
		{api.Filler, 1, 0, false}, {api.Filler, 0, 1, false},
	} {
		m := of(c.kind)
		m.Due, m.Ref = c.due, c.ref
		isRight(t, m, c.want)
	}
}

func TestTopics(t *testing.T) {
	for topic, want := range map[string]bool{
		"a": true, "-": true, "0": true, "orders-7": true, strings.Repeat("a", 16): true,
		"%retry%g": true, "%dead%g": true, "%retry%" + strings.Repeat("g", 8): true,
		"": false, "A": false, "a b": false, "a\x00": false, "é": false, strings.Repeat("a", 17): false, "%retry%": false, "%dead%G": false,
		"%other%g": false, "%dead%" + strings.Repeat("g", 9): false, strings.Repeat("a", 70000): false,
	} {
		for _, kind := range whole {
			m := of(kind)
			m.Topic = topic
			isRight(t, m, want)
		}
	}
}

func TestTags(t *testing.T) {
	for tag, want := range map[string]bool{
		"": true, "a": true, "x-1": true, strings.Repeat("t", 16): true,
		"A": false, " ": false, "a|b": false, "\x00": false, "%retry%g": false, strings.Repeat("t", 17): false, strings.Repeat("t", 70000): false,
	} {
		for _, kind := range whole {
			m := of(kind)
			m.Tag = tag
			isRight(t, m, want)
		}
	}
}

func TestKeys(t *testing.T) {
	long := strings.Repeat("k", 16)
	for _, c := range []struct {
		keys []string
		want bool
	}{
		{nil, true},
		{[]string{"k"}, true},
		{[]string{"k", "K"}, true},
		{[]string{"k", "kk", "kkk"}, true},
		{[]string{"!", "~", long}, true},
		{[]string{"a", "b", "c", "d"}, false},
		{[]string{"a", "b", "c", "a"}, false},
		{[]string{"a", "a"}, false},
		{[]string{"a", "a", "b"}, false},
		{[]string{"a", "b", "a"}, false},
		{[]string{"b", "a", "a"}, false},
		{[]string{"a", "a", "a"}, false},
		{[]string{""}, false},
		{[]string{"a", ""}, false},
		{[]string{"a", "b", "c d"}, false},
		{[]string{"\x7f"}, false},
		{[]string{"é"}, false},
		{[]string{long + "k"}, false},
		{make([]string, 300), false},
	} {
		for _, kind := range whole {
			m := of(kind)
			m.Keys = c.keys
			isRight(t, m, c.want)
		}
	}
}

func TestBodies(t *testing.T) {
	for _, kind := range whole {
		for _, n := range []int{0, 1, 199, 200, 201, 202, 256, 1024, 70000} {
			for _, s := range []string{"x", "\x00", "\xa5", "\xff"} {
				m := of(kind)
				m.Body = strings.Repeat(s, n)
				isRight(t, m, n <= 200)
			}
		}
	}
}

func TestACancelWithMore(t *testing.T) {
	m := api.Msg{Kind: api.Cancel, Born: 5, Ref: 6}
	isRight(t, m, true)
	for i, change := range []func(m *api.Msg){
		func(m *api.Msg) { m.Queue = 1 },
		func(m *api.Msg) { m.Due = 1 },
		func(m *api.Msg) { m.Retry = 1 },
		func(m *api.Msg) { m.Topic = "a" },
		func(m *api.Msg) { m.Tag = "a" },
		func(m *api.Msg) { m.Body = "a" },
		func(m *api.Msg) { m.Body = "\x00" },
		func(m *api.Msg) { m.Body = noughts(3) },
		func(m *api.Msg) { m.Keys = []string{"a"} },
		func(m *api.Msg) { m.Keys = []string{""} },
	} {
		x := m
		change(&x)
		if rec.Right(x) {
			t.Errorf("row %d: %+v", i, x)
		}
		isRight(t, x, false)
	}
}

func TestAFillerWithMore(t *testing.T) {
	for i, change := range []func(m *api.Msg){
		func(m *api.Msg) { m.Queue = 1 },
		func(m *api.Msg) { m.Due = 1 },
		func(m *api.Msg) { m.Retry = 1 },
		func(m *api.Msg) { m.Ref = 1 },
		func(m *api.Msg) { m.Born = 1 },
		func(m *api.Msg) { m.Topic = "a" },
		func(m *api.Msg) { m.Tag = "a" },
		func(m *api.Msg) { m.Keys = []string{"a"} },
		func(m *api.Msg) { m.Keys = []string{""} },
	} {
		for _, n := range []int{0, 2, 3, 1024} {
			x := filler(n)
			change(&x)
			if rec.Right(x) {
				t.Errorf("row %d: %+v", i, x)
			}
			isRight(t, x, false)
		}
	}
}

func TestAFillersBody(t *testing.T) {
	for _, n := range []int{0, 1, 2, 3, 4, 200, 201, 1023, 1024} {
		isRight(t, filler(n), true)
		for _, at := range []int{0, n / 2, n - 1} {
			if n > 0 {
				b := []byte(noughts(n))
				b[at] = 1
				isRight(t, api.Msg{Kind: api.Filler, Body: string(b)}, false)
				b[at] = '0'
				isRight(t, api.Msg{Kind: api.Filler, Body: string(b)}, false)
			}
		}
	}
	for _, n := range []int{1025, 1026, 2048, 65536 + 3} {
		isRight(t, filler(n), false)
	}
}
