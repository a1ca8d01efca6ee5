package cq_test

import (
	"fmt"
	"math"
	"slices"
	"strings"
	"testing"

	"reveille/api"
	"reveille/cq"
	"reveille/disk"
	"reveille/entry"
)

// All tests of this package hold promise P10.1: all are what the chapter says.

const perSegment = 10

// ok fails, if a call wasn't told OK.
func ok(t *testing.T, l ...api.Errno) {
	t.Helper()
	for i, e := range l {
		if e != api.OK {
			t.Fatalf("call %d: %d, not OK", i, e)
		}
	}
}

func fresh(t *testing.T, d *disk.Disk) *cq.Queues {
	t.Helper()
	q, e := cq.New(d)
	if e != api.OK || q == nil {
		t.Fatalf("New: %v, %d", q, e)
	}
	return q
}

// empty is queues without entries, and their disk.
func empty(t *testing.T) (*disk.Disk, *cq.Queues) {
	t.Helper()
	d := disk.New(1 << 20)
	return d, fresh(t, d)
}

// nth is an entry, unlike any other: of a record at 100 times n, born at 10 times n.
func nth(n int) entry.Place { return entry.Place{At: 100 * n, Long: 36 + n, Hash: 7 * n, Born: 10 * n} }

// entries is the first so many.
func entries(n int) []entry.Place {
	l := make([]entry.Place, n)
	for i := range l {
		l[i] = nth(i)
	}
	return l
}

// add adds entries, and fails, if one isn't told next.
func add(t *testing.T, q *cq.Queues, topic string, queue int, l ...entry.Place) {
	t.Helper()
	for _, p := range l {
		next := q.Next(topic, queue)
		if at, e := q.Add(topic, queue, p); at != next || e != api.OK || q.Next(topic, queue) != next+1 {
			t.Fatalf("Add to %q, %d: %d, %d; next was %d, and is %d", topic, queue, at, e, next, q.Next(topic, queue))
		}
	}
}

// has fails, if a queue has other entries than these, from its least position on.
func has(t *testing.T, q *cq.Queues, topic string, queue, least int, l ...entry.Place) {
	t.Helper()
	next := least + len(l)
	if q.Least(topic, queue) != least || q.Next(topic, queue) != next {
		t.Fatalf("%q, %d: from %d to %d, not from %d to %d", topic, queue, q.Least(topic, queue), q.Next(topic, queue), least, next)
	}
	for i, p := range l {
		if x, e := q.At(topic, queue, least+i); x != p || e != api.OK {
			t.Fatalf("%q, %d at %d: %+v, %d, not %+v", topic, queue, least+i, x, e, p)
		}
	}
	lacks(t, q, topic, queue, api.ErrRange, math.MinInt, -1, next, next+1, math.MaxInt)
	if least > 0 {
		lacks(t, q, topic, queue, api.ErrTrim, 0, least/2, least-1)
	}
}

// lacks fails, if an entry is there, or lacks for another reason.
func lacks(t *testing.T, q *cq.Queues, topic string, queue int, wrong api.Errno, l ...int) {
	t.Helper()
	for _, at := range l {
		if p, e := q.At(topic, queue, at); p != (entry.Place{}) || e != wrong {
			t.Fatalf("%q, %d at %d: %+v, %d, not %d", topic, queue, at, p, e, wrong)
		}
	}
}

// tells fails, if other queues are named, or they are told in another order.
func tells(t *testing.T, q *cq.Queues, l ...cq.Queue) {
	t.Helper()
	if all := q.All(); !slices.Equal(all, l) {
		t.Fatalf("All: %v, not %v", all, l)
	}
}

// file is the name of a queue's segment that begins behind so many entries.
func file(topic string, queue, behind int) string {
	return fmt.Sprintf("q-%s.%d-%08d", topic, queue, 20*behind)
}

// bytes is entries' bytes.
func bytes(l ...entry.Place) string {
	var b strings.Builder
	for _, p := range l {
		s, _ := p.Put()
		b.WriteString(s)
	}
	return b.String()
}

// with is a disk with files, synced: of name, bytes, name, bytes ..
func with(t *testing.T, l ...string) *disk.Disk {
	t.Helper()
	d := disk.New(1 << 20)
	for i := 0; i < len(l); i += 2 {
		ok(t, d.Create(l[i]), d.Write(l[i], 0, l[i+1]), d.Sync(l[i]))
	}
	return d
}

// holds fails, if a disk has other files than these, or other bytes in them.
func holds(t *testing.T, d *disk.Disk, l ...string) {
	t.Helper()
	if d.Same(with(t, l...)) {
		return
	}
	for _, f := range d.List("") {
		t.Logf("%q has %d bytes", f, d.Len(f))
	}
	t.Fatalf("it doesn't hold %q", l)
}

func TestExample(t *testing.T) {
	_, q := empty(t)
	for want := range 2 {
		if at, e := q.Add("a", 0, nth(want)); at != want || e != api.OK {
			t.Fatalf("Add: %d, %d, not %d", at, e, want)
		}
	}
	has(t, q, "a", 0, 0, nth(0), nth(1))
}

func TestManyEntriesOfSeveralQueues(t *testing.T) {
	_, q := empty(t)
	topics := []string{"a", "ab", "%retry%g", "a-0", strings.Repeat("z", 16)}
	want := map[cq.Queue][]entry.Place{} // by topic and number
	for i := range 1000 {
		x := cq.Queue{Topic: topics[i*i%len(topics)], Queue: i * 7 % 11 % 3}
		add(t, q, x.Topic, x.Queue, nth(i))
		want[x] = append(want[x], nth(i))
	}
	for _, topic := range topics {
		for queue := range 3 {
			has(t, q, topic, queue, 0, want[cq.Queue{Topic: topic, Queue: queue}]...)
		}
	}
	if len(q.All()) != len(want) || len(want) < 6 {
		t.Errorf("All: %v", q.All())
	}
	for i, x := range q.All() {
		l := want[cq.Queue{Topic: x.Topic, Queue: x.Queue}]
		if x.Least != 0 || x.Next != len(l) || len(l) == 0 {
			t.Errorf("All: %v, of %d entries", x, len(l))
		}
		if i > 0 && q.All()[i-1].Topic > x.Topic {
			t.Errorf("All: %v behind %v", x, q.All()[i-1])
		}
	}
}

// TestGreatestAndLeast: each number of an entry comes back, from nothing to the greatest that it may be.
func TestGreatestAndLeast(t *testing.T) {
	_, q := empty(t)
	l := []entry.Place{{}, {At: 1<<48 - 1, Long: 1<<16 - 1, Hash: 1<<40 - 1, Born: 1<<56 - 1}, {At: 1}, {Long: 1}, {Hash: 1}, {Born: 1}, {At: 1<<48 - 1}, {Long: 1<<16 - 1}, {Hash: 1<<40 - 1}, {Born: 1<<56 - 1}, {}, {}}
	add(t, q, "a", 2, l...)
	has(t, q, "a", 2, 0, l...)
}

func TestTenEntriesAndEleven(t *testing.T) {
	d, q := empty(t)
	l := entries(21)
	for i := range l {
		add(t, q, "a", 1, l[i])
		var files []string
		for from := 0; from <= i; from += perSegment {
			files = append(files, file("a", 1, from), bytes(l[from:min(from+perSegment, i+1)]...))
		}
		holds(t, d, files...)
		has(t, q, "a", 1, 0, l[:i+1]...)
	}
	if f := d.List(""); !slices.Equal(f, []string{"q-a.1-00000000", "q-a.1-00000200", "q-a.1-00000400"}) {
		t.Errorf("the files %q", f)
	}
}

// TestCallsOfAdd: the first entry of a segment takes two calls of the disk, each other one.
func TestCallsOfAdd(t *testing.T) {
	d, q := empty(t)
	for i := range 25 {
		calls := 1
		if i%perSegment == 0 {
			calls = 2
		}
		d.Fuse(calls)
		add(t, q, "a", 0, nth(i))
		d.Fuse(0)
		if e := d.Sync(); e != api.ErrDown {
			t.Fatalf("entry %d took fewer calls than %d", i, calls)
		}
		d.Crash(disk.Plan{Keep: slices.Repeat([]bool{true}, d.Waits())})
	}
}

func TestBase(t *testing.T) {
	for _, base := range []int{0, 1, 9, 10, 13, 200, 99999999, 100000000, api.MaxNum - 1, api.MaxNum} {
		d, q := empty(t)
		d.Fuse(0) // to name one is no call
		ok(t, q.Base("a", 1, base))
		holds(t, d)
		has(t, q, "a", 1, base)
		tells(t, q, cq.Queue{Topic: "a", Queue: 1, Least: base, Next: base})
		if q.Seek("a", 1, 0) != base || q.Trim(api.MaxNum) != api.OK {
			t.Fatalf("Base %d: Seek %d", base, q.Seek("a", 1, 0))
		}
		d.Fuse(-1)
		for _, at := range []int{base, 0, api.MaxNum} {
			if e := q.Base("a", 1, at); e != api.ErrThere {
				t.Errorf("Base %d, and %d: %d", base, at, e)
			}
		}
		ok(t, q.Base("a", 0, 5), q.Base("b", 1, 6))
		add(t, q, "a", 1, entries(12)...)
		has(t, q, "a", 1, base, entries(12)...)
		has(t, q, "a", 0, 5)
		holds(t, d, file("a", 1, 0), bytes(entries(10)...), file("a", 1, 10), bytes(nth(10), nth(11)))
		tells(t, q, cq.Queue{Topic: "a", Queue: 0, Least: 5, Next: 5}, cq.Queue{Topic: "a", Queue: 1, Least: base, Next: base + 12}, cq.Queue{Topic: "b", Queue: 1, Least: 6, Next: 6})
		if e := q.Base("a", 1, base); e != api.ErrThere {
			t.Errorf("Base behind Add: %d", e)
		}
	}
}

func TestBaseThatMayNotBe(t *testing.T) {
	_, q := empty(t)
	for _, at := range []int{math.MinInt, -1, api.MaxNum + 1, math.MaxInt} {
		if e := q.Base("a", 0, at); e != api.ErrRange {
			t.Errorf("Base %d: %d", at, e)
		}
	}
	tells(t, q)
	ok(t, q.Base("a", 0, 4)) // what was refused didn't name it
	add(t, q, "b", 0, nth(0))
	if e := q.Base("b", 0, 0); e != api.ErrThere {
		t.Errorf("Base behind Add: %d", e)
	}
	has(t, q, "b", 0, 0, nth(0))
}

// TestAQueueThatBeginsSomewhere: neither where it begins, nor its least position, need be where a segment begins.
func TestAQueueThatBeginsSomewhere(t *testing.T) {
	for _, base := range []int{3, 13, 1005, 1<<31 + 7} {
		d, q := empty(t)
		ok(t, q.Base("a", 0, base))
		add(t, q, "a", 0, entries(35)...)
		for gone := range 36 {
			ok(t, q.Trim(100*gone))
			has(t, q, "a", 0, base+gone, entries(35)[gone:]...)
			for i := range 36 {
				if at := q.Seek("a", 0, 10*i); at != base+max(i, gone) {
					t.Fatalf("from %d on, %d gone: Seek of %d: %d", base, gone, 10*i, at)
				}
			}
			var files []string
			for from := min(gone/10, 3) * 10; from < 35; from += perSegment {
				files = append(files, file("a", 0, from), bytes(entries(35)[from:min(from+perSegment, 35)]...))
			}
			holds(t, d, files...)
		}
		add(t, q, "a", 0, nth(35))
		has(t, q, "a", 0, base+35, nth(35))
	}
}

func TestAt(t *testing.T) {
	_, q := empty(t)
	ok(t, q.Base("a", 0, 100))
	add(t, q, "a", 0, entries(25)...)
	ok(t, q.Trim(1200))
	for _, c := range []struct {
		at, n int
		e     api.Errno
	}{
		{math.MinInt, 0, api.ErrRange}, {-1, 0, api.ErrRange}, {0, 0, api.ErrTrim}, {99, 0, api.ErrTrim}, {100, 0, api.ErrTrim}, {110, 0, api.ErrTrim}, {111, 0, api.ErrTrim},
		{112, 12, api.OK}, {119, 19, api.OK}, {120, 20, api.OK}, {124, 24, api.OK}, {125, 0, api.ErrRange}, {126, 0, api.ErrRange}, {math.MaxInt, 0, api.ErrRange},
	} {
		p, e := q.At("a", 0, c.at)
		if p != nth(c.n) && e == api.OK || e != api.OK && p != (entry.Place{}) || e != c.e {
			t.Errorf("At %d: %+v, %d", c.at, p, e)
		}
	}
}

// TestWhatWasNotNamed: of such a queue no position is told to be trimmed.
func TestWhatWasNotNamed(t *testing.T) {
	_, q := empty(t)
	ok(t, q.Base("a", 0, 7))
	add(t, q, "a", 0, nth(1))
	for _, c := range []struct {
		topic string
		queue int
	}{{"a", 1}, {"a", 2}, {"b", 0}, {"a", -1}, {"a", 3}, {"a", math.MaxInt}, {"", 0}, {"A", 0}, {"a.0-", 0}, {"a.", 0}, {"%retry%a", 0}, {"a\x00", 0}} {
		if q.Least(c.topic, c.queue) != 0 || q.Next(c.topic, c.queue) != 0 || q.Seek(c.topic, c.queue, 0) != 0 {
			t.Errorf("%q, %d: %d, %d, %d", c.topic, c.queue, q.Least(c.topic, c.queue), q.Next(c.topic, c.queue), q.Seek(c.topic, c.queue, 0))
		}
		lacks(t, q, c.topic, c.queue, api.ErrRange, math.MinInt, -1, 0, 1, 7, math.MaxInt)
	}
	tells(t, q, cq.Queue{Topic: "a", Queue: 0, Least: 7, Next: 8})
}

func TestSeek(t *testing.T) {
	for _, base := range []int{0, 6} {
		_, q := empty(t)
		ok(t, q.Base("a", 0, base))
		if q.Seek("a", 0, 0) != base {
			t.Errorf("of none: %d", q.Seek("a", 0, 0))
		}
		for _, born := range []int{10, 10, 20, 30, 30, 30, 40, 50, 60, 70, 70, 70, 90} {
			add(t, q, "a", 0, entry.Place{Born: born})
		}
		for _, c := range [][2]int{
			{math.MinInt, 0}, {-1, 0}, {0, 0}, {9, 0}, {10, 0}, {11, 2}, {20, 2}, {21, 3}, {30, 3}, {31, 6}, {60, 8}, {61, 9}, {70, 9}, {71, 12}, {89, 12}, {90, 12}, {91, 13}, {math.MaxInt, 13},
		} {
			if at := q.Seek("a", 0, c[0]); at != base+c[1] {
				t.Errorf("Seek of %d: %d, not %d", c[0], at, base+c[1])
			}
		}
	}
}

// TestSeekOutOfOrder: the first entry counts, though later ones were born earlier; what was trimmed doesn't.
func TestSeekOutOfOrder(t *testing.T) {
	_, q := empty(t)
	for i, born := range []int{50, 20, 70, 10, 70, 90, 0, 80} {
		add(t, q, "a", 0, entry.Place{At: i, Born: born})
	}
	for _, c := range []struct{ trim, born, want int }{{0, 0, 0}, {0, 50, 0}, {0, 51, 2}, {0, 71, 5}, {0, 91, 8}, {1, 0, 1}, {1, 21, 2}, {3, 0, 3}, {3, 11, 4}, {6, 0, 6}, {6, 1, 7}, {7, 80, 7}, {7, 81, 8}, {8, 0, 8}} {
		ok(t, q.Trim(c.trim))
		if at := q.Seek("a", 0, c.born); at != c.want {
			t.Errorf("trimmed to %d, Seek of %d: %d, not %d", c.trim, c.born, at, c.want)
		}
	}
}

func TestTrimSegmentBySegment(t *testing.T) {
	d, q := empty(t)
	l := entries(30)
	add(t, q, "a", 0, l...)
	segments := []string{file("a", 0, 0), bytes(l[:10]...), file("a", 0, 10), bytes(l[10:20]...), file("a", 0, 20), bytes(l[20:]...)}
	for _, c := range []struct{ begin, least, dropped, calls int }{
		{math.MinInt, 0, 0, 0}, {-1, 0, 0, 0}, {0, 0, 0, 0}, {1, 1, 0, 0}, {100, 1, 0, 0}, {101, 2, 0, 0}, {900, 9, 0, 0}, {50, 9, 0, 0},
		{901, 10, 1, 1}, {1000, 10, 1, 0}, {1900, 19, 1, 0}, {2000, 20, 2, 1}, {2000, 20, 2, 0}, {2900, 29, 2, 0}, {2901, 30, 2, 0}, {math.MaxInt, 30, 2, 0}, {0, 30, 2, 0},
	} {
		d.Fuse(c.calls)
		ok(t, q.Trim(c.begin))
		d.Fuse(-1)
		has(t, q, "a", 0, c.least, l[c.least:]...)
		holds(t, d, segments[2*c.dropped:]...)
		tells(t, q, cq.Queue{Topic: "a", Queue: 0, Least: c.least, Next: 30})
	}
	add(t, q, "a", 0, nth(30)) // what was the last segment has no entry any more, and goes with the next trim
	holds(t, d, file("a", 0, 20), bytes(l[20:]...), file("a", 0, 30), bytes(nth(30)))
	ok(t, q.Trim(0))
	holds(t, d, file("a", 0, 30), bytes(nth(30)))
	has(t, q, "a", 0, 30, nth(30))
}

func TestTrimOfAll(t *testing.T) {
	for _, n := range []int{1, 9, 10, 11, 20, 21, 57} {
		d, q := empty(t)
		l := entries(n + 12)
		add(t, q, "a", 0, l[:n]...)
		ok(t, q.Trim(math.MaxInt))
		has(t, q, "a", 0, n)
		last := (n - 1) / perSegment * perSegment
		holds(t, d, file("a", 0, last), bytes(l[last:n]...))
		add(t, q, "a", 0, l[n:]...)
		has(t, q, "a", 0, n, l[n:]...)
		ok(t, q.Trim(100*n+1))
		has(t, q, "a", 0, n+1, l[n+1:]...)
		first := (n + 1) / perSegment * perSegment
		if f := d.List(""); f[0] != file("a", 0, first) {
			t.Errorf("of %d: %q", n, f)
		}
	}
}

// TestTrimOutOfOrder: an entry that stays keeps those behind it.
func TestTrimOutOfOrder(t *testing.T) {
	_, q := empty(t)
	places := []int{30, 10, 20, 50, 40, 0, 60}
	for _, at := range places {
		add(t, q, "a", 0, entry.Place{At: at})
	}
	for _, c := range [][2]int{{0, 0}, {11, 0}, {30, 0}, {31, 3}, {50, 3}, {51, 6}, {60, 6}, {61, 7}} {
		ok(t, q.Trim(c[0]))
		if q.Least("a", 0) != c[1] || q.Next("a", 0) != len(places) {
			t.Errorf("Trim to %d: %v, not %d", c[0], q.All(), c[1])
		}
	}
}

func TestTrimOfSeveralQueues(t *testing.T) {
	d, q := empty(t)
	for i := range 60 {
		add(t, q, "a", i%2, nth(i))
		if i >= 40 {
			add(t, q, "b", 0, nth(i))
		}
	}
	ok(t, q.Base("c", 2, 9))
	d.Fuse(3) // one segment of a's 0 and 1 each, and none of b's
	ok(t, q.Trim(2500))
	if e := d.Sync(); e != api.OK {
		t.Error("more than two calls")
	}
	if e := d.Sync(); e != api.ErrDown {
		t.Error("fewer than two calls")
	}
	tells(t, q, cq.Queue{Topic: "a", Queue: 0, Least: 13, Next: 30}, cq.Queue{Topic: "a", Queue: 1, Least: 12, Next: 30}, cq.Queue{Topic: "b", Queue: 0, Least: 0, Next: 20}, cq.Queue{Topic: "c", Queue: 2, Least: 9, Next: 9})
}

func TestAllInOrder(t *testing.T) {
	_, q := empty(t)
	tells(t, q)
	names := []string{"b", "a", "%retry%g", "%dead%g", "a-", "aa", "0", "-", "z", "a0", "%dead%a"}
	for i, topic := range names {
		if i%2 == 0 {
			ok(t, q.Base(topic, 2, i))
			add(t, q, topic, 0, nth(i))
		} else {
			add(t, q, topic, 1, nth(i))
		}
	}
	var got []string
	for _, x := range q.All() {
		got = append(got, fmt.Sprint(x))
	}
	want := []string{"{%dead%a 0 0 1}", "{%dead%a 2 10 10}", "{%dead%g 1 0 1}", "{%retry%g 0 0 1}", "{%retry%g 2 2 2}", "{- 1 0 1}", "{0 0 0 1}", "{0 2 6 6}", "{a 1 0 1}", "{a- 0 0 1}", "{a- 2 4 4}", "{a0 1 0 1}", "{aa 1 0 1}", "{b 0 0 1}", "{b 2 0 0}", "{z 0 0 1}", "{z 2 8 8}"}
	if !slices.Equal(got, want) {
		t.Errorf("All: %v, not %v", got, want)
	}
	l := q.All()
	clear(l) // what was told is nobody else's
	if fmt.Sprint(q.All()[0]) != want[0] {
		t.Error("All told what is kept")
	}
}

func TestNewDeletesWhatThereIs(t *testing.T) {
	d := with(t, "q-", "x", "q-a.0-00000000", bytes(entries(10)...), "q-a.0-00000200", bytes(nth(10)), "q-nonsense", "", "q-\xff", "y", "q", "z", "Q-a.0-00000000", "1", "aq-", "2", "", "3", "tape-00000000", "4", "x-links", "5")
	ok(t, d.Write("q-nonsense", 0, "waits"), d.Write("q", 1, "waits"))
	d.Fuse(1) // one call
	q := fresh(t, d)
	d.Fuse(-1)
	holds(t, d, "q", "zwaits", "Q-a.0-00000000", "1", "aq-", "2", "", "3", "tape-00000000", "4", "x-links", "5")
	tells(t, q)
	has(t, q, "a", 0, 0)
	add(t, q, "a", 0, nth(3))
	has(t, q, "a", 0, 0, nth(3))
	if again := fresh(t, d); len(again.All()) != 0 || len(d.List("q-")) != 0 {
		t.Errorf("made anew: %v, %q", again.All(), d.List("q-"))
	}
}

func TestNewOnADiskThatGoesDown(t *testing.T) {
	d := with(t, "q-a.0-00000000", bytes(nth(0)), "other", "x")
	d.Fuse(0)
	for range 2 {
		if q, e := cq.New(d); q != nil || e != api.ErrDown {
			t.Errorf("New: %v, %d", q, e)
		}
	}
	holds(t, d, "q-a.0-00000000", bytes(nth(0)), "other", "x")
	d = with(t, "other", "x")
	d.Fuse(0)
	fresh(t, d) // no call is made
	if d.Sync() != api.ErrDown {
		t.Error("there is no fuse any more")
	}
	fresh(t, d)
}

func TestNil(t *testing.T) {
	if q, e := cq.New(nil); q != nil || e != api.ErrArg {
		t.Errorf("New: %v, %d", q, e)
	}
	var q *cq.Queues
	for i, topic := range []string{"a", "", "A"} {
		queue, n := 2-3*i, 5-6*i // right ones, and wrong ones
		if at, e := q.Add(topic, queue, entry.Place{At: n}); at != 0 || e != api.ErrArg {
			t.Errorf("Add: %d, %d", at, e)
		}
		if p, e := q.At(topic, queue, n); p != (entry.Place{}) || e != api.ErrArg {
			t.Errorf("At: %v, %d", p, e)
		}
		if q.Base(topic, queue, n) != api.ErrArg || q.Trim(n) != api.ErrArg {
			t.Error("it isn't refused")
		}
		if q.Least(topic, queue) != 0 || q.Next(topic, queue) != 0 || q.Seek(topic, queue, n) != 0 || len(q.All()) != 0 {
			t.Error("it has something")
		}
	}
}

// TestWhatNewDidNotMake: such queues have no disk; nothing panics.
func TestWhatNewDidNotMake(t *testing.T) {
	q := &cq.Queues{}
	if at, e := q.Add("a", 0, nth(0)); at != 0 || e != api.ErrArg {
		t.Errorf("Add: %d, %d", at, e)
	}
	ok(t, q.Trim(5), q.Base("a", 0, 3))
	has(t, q, "a", 0, 3)
	tells(t, q, cq.Queue{Topic: "a", Queue: 0, Least: 3, Next: 3})
}

func TestNamesThatMayNotBe(t *testing.T) {
	d, q := empty(t)
	d.Fuse(0)
	for _, topic := range []string{"", " ", "A", "a b", "a.b", "a/b", "é", "\x00", "\xff", strings.Repeat("a", 17), "%", "%retry%", "%dead%", "%retry%G", "%dead%123456789", "%Retry%g", "%other%g", "retry%g", "x%retry%g", "%retry%g ", "a\n"} {
		if at, e := q.Add(topic, 0, nth(0)); at != 0 || e != api.ErrName {
			t.Errorf("Add to %q: %d, %d", topic, at, e)
		}
		if e := q.Base(topic, 0, 0); e != api.ErrName {
			t.Errorf("Base of %q: %d", topic, e)
		}
	}
	for _, queue := range []int{math.MinInt, -1, 3, 4, 256, math.MaxInt} {
		for _, topic := range []string{"a", "%retry%g"} {
			if at, e := q.Add(topic, queue, nth(0)); at != 0 || e != api.ErrQueue {
				t.Errorf("Add to %d: %d, %d", queue, at, e)
			}
			if e := q.Base(topic, queue, 0); e != api.ErrQueue {
				t.Errorf("Base of %d: %d", queue, e)
			}
		}
	}
	tells(t, q)
	holds(t, d)
}

func TestNamesThatMayBe(t *testing.T) {
	for _, topic := range []string{"a", "0", "-", "a-0", strings.Repeat("z", 16), "%retry%g", "%dead%g", "%retry%12345678", "%dead%-"} {
		for queue := range 3 {
			d, q := empty(t)
			ok(t, q.Base(topic, queue, 1))
			add(t, q, topic, queue, nth(1))
			has(t, q, topic, queue, 1, nth(1))
			holds(t, d, file(topic, queue, 0), bytes(nth(1)))
		}
	}
}

func TestEntriesThatMayNotBe(t *testing.T) {
	d, q := empty(t)
	d.Fuse(0)
	for _, p := range []entry.Place{
		{At: -1}, {Long: -1}, {Hash: -1}, {Born: -1}, {At: 1 << 48}, {Long: 1 << 16}, {Hash: 1 << 40}, {Born: 1 << 56}, {At: math.MinInt}, {Born: math.MaxInt}, {At: 1, Long: 2, Hash: 3, Born: -4},
	} {
		if at, e := q.Add("a", 0, p); at != 0 || e != api.ErrArg {
			t.Errorf("Add of %+v: %d, %d", p, at, e)
		}
	}
	tells(t, q)
	holds(t, d)
}

// TestWhichErrorIsFirst: of several that are due the one that the chapter names first is told.
func TestWhichErrorIsFirst(t *testing.T) {
	d, q := empty(t)
	ok(t, q.Base("b", 0, 4))
	d.Fuse(0)
	if d.Sync() != api.ErrDown {
		t.Fatal("it isn't down")
	}
	wrong := entry.Place{At: -1}
	for i, c := range []struct {
		topic string
		queue int
		p     entry.Place
		want  api.Errno
	}{{"A", 3, wrong, api.ErrName}, {"A", 0, wrong, api.ErrName}, {"A", 3, nth(0), api.ErrName}, {"A", 0, nth(0), api.ErrName}, {"a", 3, wrong, api.ErrQueue}, {"a", -1, nth(0), api.ErrQueue}, {"a", 0, wrong, api.ErrArg}, {"b", 0, wrong, api.ErrArg}, {"a", 0, nth(0), api.ErrDown}, {"b", 0, nth(0), api.ErrDown}} {
		if at, e := q.Add(c.topic, c.queue, c.p); at != 0 || e != c.want {
			t.Errorf("Add %d: %d, %d, not %d", i, at, e, c.want)
		}
	}
	for i, c := range []struct {
		topic     string
		queue, at int
		want      api.Errno
	}{{"A", 3, -1, api.ErrName}, {"A", 0, 0, api.ErrName}, {"b", 3, -1, api.ErrQueue}, {"b", -1, 0, api.ErrQueue}, {"b", 0, -1, api.ErrRange}, {"b", 0, api.MaxNum + 1, api.ErrRange}, {"b", 0, 4, api.ErrThere}} {
		if e := q.Base(c.topic, c.queue, c.at); e != c.want {
			t.Errorf("Base %d: %d, not %d", i, e, c.want)
		}
	}
	tells(t, q, cq.Queue{Topic: "b", Queue: 0, Least: 4, Next: 4})
	holds(t, d)
}
