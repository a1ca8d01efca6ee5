package cq_test

import (
	"math"
	"slices"
	"testing"

	"reveille/api"
	"reveille/cq"
	"reveille/disk"
	"reveille/entry"
)

// TestAFullDisk: there is room for so many entries; of those that are refused nothing is left.
func TestAFullDisk(t *testing.T) {
	for _, capacity := range []int{0, 19, 20, 39, 199, 200, 219, 220, 405} {
		d := disk.New(capacity)
		q := fresh(t, d)
		n := capacity / entry.Size
		add(t, q, "a", 0, entries(n)...)
		calls := d.List("")
		for _, topic := range []string{"a", "b"} {
			for queue := range 3 {
				if at, e := q.Add(topic, queue, nth(n)); at != 0 || e != api.ErrFull {
					t.Fatalf("%d bytes: Add to %q, %d: %d, %d", capacity, topic, queue, at, e)
				}
			}
		}
		if f := d.List(""); !slices.Equal(f, calls) || d.Size() != n*entry.Size {
			t.Fatalf("%d bytes: the files %q, %d bytes", capacity, f, d.Size())
		}
		has(t, q, "a", 0, 0, entries(n)...)
		if n > 0 {
			tells(t, q, cq.Queue{Topic: "a", Queue: 0, Next: n})
		} else {
			tells(t, q)
		}
		ok(t, q.Base("b", 1, 5)) // what was refused didn't name it
		if at, e := q.Add("b", 1, nth(n)); at != 0 || e != api.ErrFull {
			t.Fatalf("%d bytes: Add behind Base: %d, %d", capacity, at, e)
		}
		has(t, q, "b", 1, 5)
	}
}

// TestRoomAgain: what a trim drops makes room.
func TestRoomAgain(t *testing.T) {
	d := disk.New(400)
	q := fresh(t, d)
	add(t, q, "a", 0, entries(20)...)
	if _, e := q.Add("a", 0, nth(20)); e != api.ErrFull {
		t.Fatalf("Add: %d", e)
	}
	ok(t, q.Trim(900))
	if _, e := q.Add("a", 0, nth(20)); e != api.ErrFull {
		t.Fatalf("Add behind a trim of nine: %d", e)
	}
	ok(t, q.Trim(1000))
	add(t, q, "a", 0, nth(20))
	has(t, q, "a", 0, 10, entries(21)[10:]...)
}

// deed is a call; its error is told.
type deed func(q *cq.Queues) api.Errno

func adds(topic string, queue int, p entry.Place) deed {
	return func(q *cq.Queues) api.Errno {
		_, e := q.Add(topic, queue, p)
		return e
	}
}

func trims(begin int) deed { return func(q *cq.Queues) api.Errno { return q.Trim(begin) } }

// plot is what happens to the queues of one disk: two are filled over three segments each, and trimmed, between.
func plot() []deed {
	var l []deed
	for i := range 25 {
		l = append(l, adds("b", 1, nth(i)), adds("a", 0, nth(i)))
		if i == 12 {
			l = append(l, trims(700), func(q *cq.Queues) api.Errno { return q.Base("c", 2, 40) }, adds("c", 2, nth(i)))
		}
	}
	return append(l, trims(2100), trims(100000), adds("a", 0, nth(30)), adds("d", 0, nth(31)))
}

// TestItGoesDownAtEachCall: a call that is refused leaves all positions, and with them what can be told of them, as they were.
func TestItGoesDownAtEachCall(t *testing.T) {
	for fuse := 0; ; fuse++ {
		d, q := empty(t)
		d.Fuse(fuse)
		went := false
		for i, do := range plot() {
			was := q.All()
			e := do(q)
			if e == api.OK && !d.Down() {
				continue
			}
			if e != api.ErrDown {
				t.Fatalf("fuse %d, deed %d: %d", fuse, i, e)
			}
			tells(t, q, was...)
			stillTells(t, q, was)
			went = true
			break
		}
		if !went {
			if fuse < 60 { // there are as many entries at least
				t.Fatalf("it never went down, of %d", fuse)
			}
			return
		}
		if x, e := cq.New(d); len(d.List("q-")) > 0 && (x != nil || e != api.ErrDown) {
			t.Fatalf("fuse %d: New, down: %v, %d", fuse, x, e)
		}
		d.Crash(disk.Plan{Keep: slices.Repeat([]bool{true, false, true}, d.Waits()), Lack: fuse % 5})
		x := fresh(t, d)
		tells(t, x)
		holds(t, d)
		add(t, x, "b", 1, nth(3))
		has(t, x, "b", 1, 0, nth(3))
	}
}

// stillTells fails, if queues of a disk that is down tell other things than those that they were.
func stillTells(t *testing.T, q *cq.Queues, was []cq.Queue) {
	t.Helper()
	left := false // is there an entry that a trim would have to read?
	for _, x := range was {
		left = left || x.Least < x.Next
		if q.Least(x.Topic, x.Queue) != x.Least || q.Next(x.Topic, x.Queue) != x.Next {
			t.Fatalf("from %d to %d, not %v", q.Least(x.Topic, x.Queue), q.Next(x.Topic, x.Queue), x)
		}
		for at := x.Least; at < x.Next; at++ {
			lacks(t, q, x.Topic, x.Queue, api.ErrDown, at)
		}
		lacks(t, q, x.Topic, x.Queue, api.ErrRange, -1, x.Next)
		if x.Least > 0 {
			lacks(t, q, x.Topic, x.Queue, api.ErrTrim, 0, x.Least-1)
		}
		if at := q.Seek(x.Topic, x.Queue, 0); at != x.Next {
			t.Fatalf("Seek in %v, down: %d", x, at)
		}
	}
	for range 2 {
		for _, topic := range []string{"a", "b", "e"} {
			if at, e := q.Add(topic, 0, nth(1)); at != 0 || e != api.ErrDown {
				t.Fatalf("Add to %q, down: %d, %d", topic, at, e)
			}
		}
		if e := q.Trim(math.MaxInt); left && e != api.ErrDown {
			t.Fatalf("Trim, down: %d", e)
		}
	}
	tells(t, q, was...)
}

// TestATrimThatIsCutShort: it goes along the queues in their order, each time.
func TestATrimThatIsCutShort(t *testing.T) {
	topics := []string{"%dead%g", "%retry%g", "0", "a", "b", "z"}
	for n := range topics {
		for range 10 {
			d, q := empty(t)
			for _, i := range []int{3, 0, 5, 1, 4, 2} {
				add(t, q, topics[i], 1, entries(11)...)
			}
			was := q.All()
			d.Fuse(n)
			if e := q.Trim(1000); e != api.ErrDown {
				t.Fatalf("Trim: %d", e)
			}
			stillTells(t, q, was)
			for i, topic := range topics {
				if gone := d.Len(file(topic, 1, 0)) == 0; gone != (i < n) {
					t.Fatalf("fuse %d: the first segment of %q is gone: %t", n, topic, gone)
				}
			}
		}
	}
}

// TestARowThatIsFull: behind the last place that has a name there is none for an entry.
func TestARowThatIsFull(t *testing.T) {
	if testing.Short() {
		t.Skip("millions of entries")
	}
	const most = 100000000 / entry.Size
	d := disk.New(400)
	q := fresh(t, d)
	ok(t, q.Base("a", 0, 7))
	for i := range most {
		if _, e := q.Add("a", 0, entry.Place{At: i}); e != api.OK {
			t.Fatalf("Add %d: %d", i, e)
		}
		if i%perSegment == 0 {
			ok(t, q.Trim(i))
		}
	}
	was := q.All()
	for range 2 {
		if at, e := q.Add("a", 0, nth(0)); at != 0 || e != api.ErrRange {
			t.Fatalf("Add: %d, %d", at, e)
		}
	}
	tells(t, q, was...)
	has(t, q, "a", 0, 7+most-perSegment, func() (l []entry.Place) {
		for i := most - perSegment; i < most; i++ {
			l = append(l, entry.Place{At: i})
		}
		return l
	}()...)
}
