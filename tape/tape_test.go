package tape_test

import (
	"fmt"
	"math"
	"slices"
	"strings"
	"testing"

	"reveille/api"
	"reveille/crc"
	"reveille/disk"
	"reveille/rec"
	"reveille/tape"
)

// The tests of this file and of open_test.go hold promise P8.1 (all are what the chapter says), those of down_test.go promise P8.2; those of model_test.go hold both.

const (
	segment  = 1024
	least    = 36  // bytes of a message of topic "a"
	greatest = 236 // the same with the longest body
)

var sums = crc.New()

// ok fails, if a call wasn't told OK.
func ok(t *testing.T, l ...api.Errno) {
	t.Helper()
	for i, e := range l {
		if e != api.OK {
			t.Fatalf("call %d: %d, not OK", i, e)
		}
	}
}

// sized is a message of so many bytes, from least to greatest.
func sized(n int) api.Msg {
	return api.Msg{Kind: api.Message, Topic: "a", Body: strings.Repeat("b", n-least), Born: n}
}

// put is a record's bytes, or a filler's.
func put(t *testing.T, m api.Msg) string {
	t.Helper()
	s, e := rec.Put(sums, m)
	ok(t, e)
	return s
}

func filler(n int) api.Msg { return api.Msg{Kind: api.Filler, Body: noughts(n)} }

func noughts(n int) string { return strings.Repeat("\x00", n) }

func open(t *testing.T, d *disk.Disk) *tape.Tape {
	t.Helper()
	x, e := tape.Open(d)
	if e != api.OK || x == nil {
		t.Fatalf("Open: %v, %d", x, e)
	}
	return x
}

// fresh is an empty tape, and its disk.
func fresh(t *testing.T) (*disk.Disk, *tape.Tape) {
	t.Helper()
	d := disk.New(1 << 20)
	return d, open(t, d)
}

// add appends records, and fails, if one doesn't stand at the place that is told by how long it is.
func add(t *testing.T, x *tape.Tape, l ...api.Msg) {
	t.Helper()
	for _, m := range l {
		want, n := x.End(), len(put(t, m))
		if left := segment - want%segment - n; left < 0 || left == 1 || left == 2 {
			want += segment - want%segment
		}
		if id, e := x.Append(m); id != want || e != api.OK || x.End() != want+n {
			t.Fatalf("Append of %d bytes: %d, %d, not %d; the end is %d", n, id, e, want, x.End())
		}
	}
}

// fill adds records, till so many bytes of a new segment are left, from 0 on, but not 1 or 2.
func fill(t *testing.T, x *tape.Tape, left int) {
	t.Helper()
	if x.End()%segment != 0 || left == 1 || left == 2 {
		t.Fatal("not to be filled so")
	}
	for n := segment - left; n > 0; {
		take := min(n, greatest)
		if rest := n - take; rest > 0 && rest < least {
			take = n - least
		}
		add(t, x, sized(take))
		n -= take
	}
	if (segment-x.End()%segment)%segment != left {
		t.Fatalf("the end is %d, not with %d left", x.End(), left)
	}
}

// tells fails, if a tape begins or ends elsewhere, is synced up to elsewhere, or has other records.
func tells(t *testing.T, x *tape.Tape, begin, end, synced int, ids ...int) {
	t.Helper()
	if x.Begin() != begin || x.End() != end || x.Synced() != synced {
		t.Fatalf("from %d to %d, synced up to %d, not from %d to %d, up to %d", x.Begin(), x.End(), x.Synced(), begin, end, synced)
	}
	if l := x.Ids(0); !slices.Equal(l, ids) {
		t.Fatalf("the numbers %v, not %v", l, ids)
	}
}

// gives fails, if a record, or its size, is another one.
func gives(t *testing.T, x *tape.Tape, id int, m api.Msg) {
	t.Helper()
	if r, e := x.Read(id); e != api.OK || !rec.Same(r, m) {
		t.Fatalf("Read of %d: %+v, %d, not %+v", id, r, e, m)
	}
	if n := x.Size(id); n != len(put(t, m)) {
		t.Fatalf("Size of %d: %d, not %d", id, n, len(put(t, m)))
	}
}

// lacks fails, if a record is there, or lacks for another reason.
func lacks(t *testing.T, x *tape.Tape, wrong api.Errno, ids ...int) {
	t.Helper()
	for _, id := range ids {
		if r, e := x.Read(id); e != wrong || !rec.Same(r, api.Msg{}) {
			t.Fatalf("Read of %d: %+v, %d, not %d", id, r, e, wrong)
		}
		if n := x.Size(id); n != 0 {
			t.Fatalf("Size of %d: %d", id, n)
		}
	}
}

// name is a segment's.
func name(place int) string { return fmt.Sprintf("tape-%08d", place) }

// with is a disk with a tape's segments from a place on, synced, whatever stands in them.
func with(t *testing.T, place int, l ...string) *disk.Disk {
	t.Helper()
	d := disk.New(1 << 20)
	for i, s := range l {
		f := name(place + i*segment)
		ok(t, d.Create(f), d.Write(f, 0, s), d.Sync(f))
	}
	return d
}

// holds fails, if a disk has other files than these segments, or other bytes in them.
func holds(t *testing.T, d *disk.Disk, place int, l ...string) {
	t.Helper()
	if d.Same(with(t, place, l...)) {
		return
	}
	for _, f := range d.List("") {
		s, e := d.All(f)
		t.Logf("%q has %q, %d", f, s, e)
	}
	t.Fatalf("it doesn't hold from %d on: %q", place, l)
}

// known is a record of each kind, the shortest and the longest among them.
func known() []api.Msg {
	long := strings.Repeat("z", 16)
	return []api.Msg{
		{Kind: api.Message, Topic: "a"},
		{Kind: api.Scheduled, Queue: 1, Due: 90, Retry: 2, Ref: 7, Born: 30, Topic: "orders", Tag: "new", Body: "hello", Keys: []string{"K1", "k2"}},
		{Kind: api.Delivery, Queue: 2, Due: 90, Retry: 4, Ref: 36, Born: 91, Topic: "%retry%g", Body: noughts(9), Keys: []string{"!"}},
		{Kind: api.Cancel, Ref: 40, Born: 3},
		{Kind: api.Delivery, Due: api.MaxNum, Ref: api.MaxNum, Born: api.MaxNum, Topic: long, Tag: long, Body: strings.Repeat("\xa5", 200), Keys: []string{"1" + long[1:], "2" + long[1:], "3" + long[1:]}},
		{Kind: api.Cancel},
	}
}

func TestExample(t *testing.T) {
	_, x := fresh(t)
	a, b := sized(40), sized(50)
	if id, e := x.Append(a); id != 0 || e != api.OK {
		t.Fatalf("the first: %d, %d", id, e)
	}
	if id, e := x.Append(b); id != x.Size(0) || id != 40 || e != api.OK {
		t.Fatalf("the second: %d, %d", id, e)
	}
	gives(t, x, 0, a)
	gives(t, x, 40, b)
}

func TestEachKind(t *testing.T) {
	d, x := fresh(t)
	var ids []int
	bytes := ""
	for _, m := range known() {
		ids = append(ids, len(bytes))
		if n := x.Cost(m); n != len(put(t, m)) {
			t.Errorf("Cost of %+v: %d", m, n)
		}
		add(t, x, m)
		bytes += put(t, m)
		if x.Last() != m.Born {
			t.Errorf("Last: %d, not %d", x.Last(), m.Born)
		}
	}
	end := len(bytes)
	if len(put(t, known()[4])) != 321 || end > segment {
		t.Fatal("not the records that this test is for")
	}
	look := func(x *tape.Tape, synced int) {
		t.Helper()
		tells(t, x, 0, end, synced, ids...)
		for i, m := range known() {
			gives(t, x, ids[i], m)
		}
	}
	look(x, 0)
	ok(t, x.Sync())
	look(x, end)
	if d.Waits() != 0 {
		t.Errorf("%d wait", d.Waits())
	}
	d.Crash(disk.Plan{})
	x = open(t, d)
	look(x, end)
	holds(t, d, 0, bytes)
	if x.Last() != 0 {
		t.Errorf("Last: %d", x.Last())
	}
	add(t, x, sized(60))
	tells(t, x, 0, end+60, end, append(ids, end)...)
	if x.Last() != 60 {
		t.Errorf("Last: %d", x.Last())
	}
}

func TestEmpty(t *testing.T) {
	d := disk.New(1000)
	d.Fuse(0) // no call is needed to open it
	x := open(t, d)
	ok(t, x.Sync())
	tells(t, x, 0, 0, 0)
	lacks(t, x, api.ErrNone, math.MinInt, -1, 0, 1, math.MaxInt)
	if at, found := x.Next(0); at != 0 || found {
		t.Errorf("Next: %d, %t", at, found)
	}
	if at, e := x.Drop(); at != 0 || e != api.ErrNone {
		t.Errorf("Drop: %d, %d", at, e)
	}
	if x.Last() != 0 {
		t.Errorf("Last: %d", x.Last())
	}
	holds(t, d, 0)
}

// TestWhatIsLeftOfASegment: nothing, or three bytes at least; else a filler takes all that is left ahead of the record.
func TestWhatIsLeftOfASegment(t *testing.T) {
	for left := 3; left < 330; left++ {
		for _, after := range []int{-40, -3, -2, -1, 0, 1, 2, 3, 4, 40} { // what the record would leave of it
			n := left - after
			if n < least || n > greatest {
				continue
			}
			d, x := fresh(t)
			fill(t, x, left)
			old := x.Ids(0)
			first := segment - left
			m := sized(n)
			cost, id, calls := n, first, 1
			if after < 0 || after == 1 || after == 2 {
				cost, id, calls = n+left, segment, 3 // the filler, the new segment, the record
			}
			if x.Cost(m) != cost {
				t.Fatalf("%d left, Cost of %d bytes: %d, not %d", left, n, x.Cost(m), cost)
			}
			size, waits := d.Size(), d.Waits()
			d.Fuse(calls)
			if at, e := x.Append(m); at != id || e != api.OK {
				t.Fatalf("%d left, %d bytes: %d, %d, not %d", left, n, at, e, id)
			}
			if d.Size() != size+cost || d.Waits() != waits+(calls+1)/2 {
				t.Fatalf("%d left, %d bytes: %d bytes more", left, n, d.Size()-size)
			}
			if d.Sync() != api.ErrDown {
				t.Fatalf("%d left, %d bytes: fewer calls than %d", left, n, calls)
			}
			d.Crash(disk.Plan{Keep: slices.Repeat([]bool{true}, 40)})
			x = open(t, d)
			tells(t, x, 0, first+cost, first+cost, append(old, id)...)
			gives(t, x, id, m)
			if calls == 3 {
				lacks(t, x, api.ErrNone, first, first+1, segment-1)
				if s, e := d.Read(name(0), first, left); s != put(t, filler(left)) || e != api.OK {
					t.Fatalf("%d left, %d bytes: the filler is %x, %d", left, n, s, e)
				}
			}
		}
	}
}

// TestAFillerThatIsAllThatIsLeft: of three bytes it is its mark and length alone.
func TestAFillerThatIsAllThatIsLeft(t *testing.T) {
	d, x := fresh(t)
	fill(t, x, 3)
	ids := x.Ids(0)
	add(t, x, sized(40))
	tells(t, x, 0, segment+40, 0, append(ids, segment)...)
	if s, _ := d.Read(name(0), segment-3, 3); s != "\x5a\x00\x03" {
		t.Errorf("the filler is %x", s)
	}
	for _, at := range []int{segment - 3, segment - 2, segment - 1} {
		lacks(t, x, api.ErrNone, at)
		if id, found := x.Next(at); id != segment || !found {
			t.Errorf("Next of %d: %d, %t", at, id, found)
		}
	}
}

// TestNoFillerAheadOfANewSegment: where nothing is left of the last one, a new one begins anyway.
func TestNoFillerAheadOfANewSegment(t *testing.T) {
	d, x := fresh(t)
	fill(t, x, 0)
	ids := x.Ids(0)
	m := known()[4]
	if x.Cost(m) != 321 {
		t.Errorf("Cost: %d", x.Cost(m))
	}
	d.Fuse(2)
	add(t, x, m)
	d.Fuse(-1)
	tells(t, x, 0, segment+321, 0, append(ids, segment)...)
	ok(t, x.Sync())
	tells(t, open(t, d), 0, segment+321, segment+321, append(ids, segment)...)
}

// TestTheDisksRoom: for the filler and the record, or nothing is written.
func TestTheDisksRoom(t *testing.T) {
	for _, left := range []int{0, 3, 38, 40, 41, 42, 43, 100, 200} {
		d, x := fresh(t)
		fill(t, x, left)
		m := sized(40)
		size, cost := d.Size(), x.Cost(m)
		for room := range cost + 2 {
			d := disk.New(size + room)
			x := open(t, d)
			fill(t, x, left)
			if room%2 == 0 {
				ok(t, x.Sync())
			}
			end, synced, waits, files, ids := x.End(), x.Synced(), d.Waits(), d.List(""), x.Ids(0)
			want := api.ErrFull
			if room >= cost {
				want = api.OK
			} else {
				d.Fuse(0) // no call is made
			}
			id, e := x.Append(m)
			if e != want {
				t.Fatalf("%d left, room for %d: %d, not %d", left, room, e, want)
			}
			if e == api.OK {
				gives(t, x, id, m)
				continue
			}
			if id != 0 || d.Size() != size || d.Waits() != waits || d.Down() || !slices.Equal(d.List(""), files) {
				t.Fatalf("%d left, room for %d: %d, and the disk is changed", left, room, id)
			}
			tells(t, x, 0, end, synced, ids...)
			d.Fuse(-1)
			if room >= least && (left == 0 || left >= least+3) { // a shorter one goes in
				add(t, x, sized(least))
			}
		}
	}
}

// TestFullAndThenDropped: what a drop frees is room again.
func TestFullAndThenDropped(t *testing.T) {
	d := disk.New(2 * segment)
	x := open(t, d)
	fill(t, x, 0)
	fill(t, x, 0)
	if id, e := x.Append(sized(40)); id != 0 || e != api.ErrFull {
		t.Fatalf("%d, %d", id, e)
	}
	if at, e := x.Drop(); at != segment || e != api.OK {
		t.Fatalf("%d, %d", at, e)
	}
	add(t, x, sized(40))
	gives(t, x, 2*segment, sized(40))
}

// threeSegments is a tape of a full segment, one with a filler at its end, and a third one.
func threeSegments(t *testing.T) (*disk.Disk, *tape.Tape, map[int]api.Msg) {
	t.Helper()
	d, x := fresh(t)
	all := map[int]api.Msg{}
	note := func() {
		for _, id := range x.Ids(0) {
			all[id] = sized(x.Size(id))
		}
	}
	fill(t, x, 0)
	fill(t, x, 50)
	add(t, x, sized(60), sized(70))
	note()
	return d, x, all
}

// TestEachPlace: an id below the begin, at it, within a record, on a filler, and at the end.
func TestEachPlace(t *testing.T) {
	_, x, all := threeSegments(t)
	look := func() {
		t.Helper()
		begin, end := x.Begin(), x.End()
		var behind []int // of each place the records from there on
		for at := end + 3; at >= -3; at-- {
			m, there := all[at]
			if there && at >= begin {
				behind = append([]int{at}, behind...)
				gives(t, x, at, m)
			} else if at >= 0 && at < begin {
				lacks(t, x, api.ErrTrim, at)
			} else {
				lacks(t, x, api.ErrNone, at)
			}
			if l := x.Ids(at); !slices.Equal(l, behind) {
				t.Fatalf("Ids of %d: %v, not %v", at, l, behind)
			}
			id, found := x.Next(at)
			if found != (len(behind) > 0) || found && id != behind[0] || !found && id != 0 {
				t.Fatalf("Next of %d: %d, %t, not the first of %v", at, id, found, behind)
			}
		}
	}
	look()
	lacks(t, x, api.ErrNone, math.MinInt, math.MaxInt, 1<<40)
	if id, found := x.Next(math.MinInt); id != 0 || !found || len(x.Ids(math.MinInt)) != len(all) {
		t.Errorf("Next: %d, %t", id, found)
	}
	if id, found := x.Next(math.MaxInt); id != 0 || found || len(x.Ids(math.MaxInt)) != 0 {
		t.Errorf("Next: %d, %t", id, found)
	}
	for _, want := range []int{segment, 2 * segment} {
		if at, e := x.Drop(); at != want || e != api.OK {
			t.Fatalf("Drop: %d, %d", at, e)
		}
		look()
	}
}

// TestWalkedByNext: from each record's end on.
func TestWalkedByNext(t *testing.T) {
	d, x, all := threeSegments(t)
	for range 2 {
		n, at := 0, 0
		for {
			id, found := x.Next(at)
			if !found {
				break
			}
			gives(t, x, id, all[id])
			n, at = n+1, id+x.Size(id)
		}
		if n != len(all) || at != x.End() {
			t.Fatalf("%d records, up to %d", n, at)
		}
		ok(t, x.Sync())
		x = open(t, d)
	}
}

// TestATapeOfOneSegmentAlone: it drops none, whatever lies in it.
func TestATapeOfOneSegmentAlone(t *testing.T) {
	d, x := fresh(t)
	refused := func() {
		t.Helper()
		begin, end, synced, ids := x.Begin(), x.End(), x.Synced(), x.Ids(0)
		d.Fuse(0)
		if at, e := x.Drop(); at != 0 || e != api.ErrNone {
			t.Fatalf("%d, %d", at, e)
		}
		d.Fuse(-1)
		tells(t, x, begin, end, synced, ids...)
	}
	refused()
	fill(t, x, 0)
	refused()
	ok(t, x.Sync())
	refused()
	add(t, x, sized(40))
	if at, e := x.Drop(); at != segment || e != api.OK {
		t.Fatalf("%d, %d", at, e)
	}
	tells(t, x, segment, segment+40, segment, segment)
	refused()
	x = open(t, d)
	refused()
}

func TestDrop(t *testing.T) {
	d, x, all := threeSegments(t)
	ok(t, x.Sync())
	end, ids := x.End(), x.Ids(0)
	var left []int
	for _, id := range ids {
		if id >= segment {
			left = append(left, id)
		}
	}
	d.Fuse(1)
	if at, e := x.Drop(); at != segment || e != api.OK {
		t.Fatalf("%d, %d", at, e)
	}
	tells(t, x, segment, end, end, left...)
	if d.Sync() != api.ErrDown {
		t.Fatal("it made no call")
	}
	d.Crash(disk.Plan{})
	if slices.Contains(d.List(""), name(0)) {
		t.Fatal("the first segment is still there")
	}
	x = open(t, d)
	tells(t, x, segment, end, end, left...)
	for _, id := range left {
		gives(t, x, id, all[id])
	}
	for _, id := range ids[:len(ids)-len(left)] {
		lacks(t, x, api.ErrTrim, id)
	}
	add(t, x, sized(99))
	if x.Last() != 99 {
		t.Errorf("Last: %d", x.Last())
	}
}

// TestDropBehindWhichNoRecordIsLeft: a segment may have a filler alone.
func TestDropBehindWhichNoRecordIsLeft(t *testing.T) {
	one := ""
	for range 4 {
		one += put(t, sized(greatest))
	}
	one += put(t, sized(segment-len(one)))
	d := with(t, 0, one, put(t, filler(20)))
	x := open(t, d)
	if x.Last() != segment-4*greatest {
		t.Errorf("Last: %d", x.Last())
	}
	if at, e := x.Drop(); at != segment || e != api.OK {
		t.Fatalf("%d, %d", at, e)
	}
	tells(t, x, segment, segment+20, segment+20)
	if x.Last() != 0 {
		t.Errorf("Last: %d", x.Last())
	}
	if at, found := x.Next(0); at != 0 || found {
		t.Errorf("Next: %d, %t", at, found)
	}
	lacks(t, x, api.ErrNone, segment)
	lacks(t, x, api.ErrTrim, 0, segment-1)
	add(t, x, sized(40))
	tells(t, x, segment, segment+60, segment+20, segment+20)
}

// TestLastIsNoFillers: a filler isn't born.
func TestLastIsNoFillers(t *testing.T) {
	x := open(t, with(t, 0, put(t, sized(77))+put(t, filler(20))))
	if x.Last() != 77 {
		t.Errorf("Last: %d", x.Last())
	}
	tells(t, x, 0, 97, 97, 0)
}

// TestLastIsTheLastOnes: not the greatest.
func TestLastIsTheLastOnes(t *testing.T) {
	_, x := fresh(t)
	add(t, x, sized(90), sized(50))
	if x.Last() != 50 {
		t.Errorf("Last: %d", x.Last())
	}
}

// TestARecordInAnothersBody: it stands there whole, but no record begins there.
func TestARecordInAnothersBody(t *testing.T) {
	d, x := fresh(t)
	inner := api.Msg{Kind: api.Cancel, Ref: 5, Born: 9}
	outer := api.Msg{Kind: api.Message, Topic: "a", Born: 8, Body: put(t, inner) + put(t, sized(50)) + put(t, filler(4))}
	add(t, x, outer, sized(40))
	bytes := put(t, outer)
	at := strings.Index(bytes, put(t, inner))
	if at < 0 {
		t.Fatal("it isn't there")
	}
	look := func() {
		t.Helper()
		tells(t, x, 0, len(bytes)+40, x.End(), 0, len(bytes))
		gives(t, x, 0, outer)
		lacks(t, x, api.ErrNone, at, at+35, at+85)
		if id, found := x.Next(at); id != len(bytes) || !found {
			t.Fatalf("Next: %d, %t", id, found)
		}
	}
	ok(t, x.Sync())
	look()
	x = open(t, d)
	look()
}

// TestARecordInATornOnesBody: what is torn is none, and no record is sought in it.
func TestARecordInATornOnesBody(t *testing.T) {
	inner := put(t, sized(50))
	outer := put(t, api.Msg{Kind: api.Message, Topic: "a", Body: inner + inner + "end"})
	for n := strings.LastIndex(outer, inner); n < len(outer); n++ {
		d := with(t, 0, put(t, sized(40))+outer[:n])
		tells(t, open(t, d), 0, 40, 40, 0)
		holds(t, d, 0, put(t, sized(40)))
	}
	rest := put(t, sized(40)) + noughts(strings.Index(outer, inner)) + inner // noughts where the head was lost
	d := with(t, 0, rest)
	tells(t, open(t, d), 0, 40, 40, 0)
}

// wrongs is records that may not be appended.
func wrongs() map[string]api.Msg {
	a := api.Msg{Kind: api.Message, Topic: "a"}
	with := func(f func(m *api.Msg)) api.Msg {
		m := a
		f(&m)
		return m
	}
	return map[string]api.Msg{
		"the zero record":      {},
		"a filler":             filler(20),
		"the greatest filler":  filler(segment),
		"a filler of too few":  filler(2),
		"no filler":            {Kind: api.Filler, Body: "x"},
		"another kind":         with(func(m *api.Msg) { m.Kind = 5 }),
		"a kind below 0":       with(func(m *api.Msg) { m.Kind = -1 }),
		"no topic":             with(func(m *api.Msg) { m.Topic = "" }),
		"another topic":        with(func(m *api.Msg) { m.Topic = "A" }),
		"another queue":        with(func(m *api.Msg) { m.Queue = 3 }),
		"a queue below 0":      with(func(m *api.Msg) { m.Queue = -1 }),
		"another tag":          with(func(m *api.Msg) { m.Tag = "x y" }),
		"another key":          with(func(m *api.Msg) { m.Keys = []string{""} }),
		"too many keys":        with(func(m *api.Msg) { m.Keys = []string{"a", "b", "c", "d"} }),
		"like keys":            with(func(m *api.Msg) { m.Keys = []string{"a", "a"} }),
		"too long a body":      with(func(m *api.Msg) { m.Body = noughts(201) }),
		"a message that's due": with(func(m *api.Msg) { m.Due = 1 }),
		"a message's ref":      with(func(m *api.Msg) { m.Ref = 1 }),
		"a cancel's topic":     with(func(m *api.Msg) { m.Kind = api.Cancel }),
		"too many retries":     with(func(m *api.Msg) { m.Retry = 5 }),
		"born before":          with(func(m *api.Msg) { m.Born = -1 }),
		"born too late":        with(func(m *api.Msg) { m.Born = api.MaxNum + 1 }),
	}
}

func TestNoRightRecord(t *testing.T) {
	d, x, _ := threeSegments(t)
	end, ids, waits, last := x.End(), x.Ids(0), d.Waits(), x.Last()
	refused := func() {
		t.Helper()
		for what, m := range wrongs() {
			if id, e := x.Append(m); id != 0 || e != api.ErrArg {
				t.Errorf("%s: %d, %d", what, id, e)
			}
			if n := x.Cost(m); n != 0 {
				t.Errorf("Cost of %s: %d", what, n)
			}
		}
	}
	refused()
	if d.Waits() != waits || x.Last() != last || d.Down() {
		t.Errorf("%d wait, Last %d", d.Waits(), x.Last())
	}
	tells(t, x, 0, end, 0, ids...)
	d.Fuse(0)
	refused() // ahead of the fuse
	if d.Down() || d.Sync() != api.ErrDown {
		t.Fatal("a call was made")
	}
	refused() // and of that it is down
}

func TestNil(t *testing.T) {
	if x, e := tape.Open(nil); x != nil || e != api.ErrArg {
		t.Errorf("Open: %v, %d", x, e)
	}
	for i, x := range []*tape.Tape{nil, {}} { // one that Open didn't make isn't told of, but mustn't panic
		if id, e := x.Append(sized(40)); id != 0 || e != api.ErrArg {
			t.Errorf("%d: Append: %d, %d", i, id, e)
		}
		if at, e := x.Drop(); at != 0 || e != api.ErrArg {
			t.Errorf("%d: Drop: %d, %d", i, at, e)
		}
		if e := x.Sync(); e != api.ErrArg {
			t.Errorf("%d: Sync: %d", i, e)
		}
		if id, found := x.Next(0); id != 0 || found || len(x.Ids(0)) != 0 {
			t.Errorf("%d: Next: %d, %t", i, id, found)
		}
		if x.Begin() != 0 || x.End() != 0 || x.Synced() != 0 || x.Last() != 0 || x.Size(0) != 0 {
			t.Errorf("%d: a look tells something", i)
		}
		m, e := x.Read(0)
		if !rec.Same(m, api.Msg{}) || x == nil && e != api.ErrArg || e == api.OK {
			t.Errorf("%d: Read: %+v, %d", i, m, e)
		}
		if n := x.Cost(sized(40)); n != 0 {
			t.Errorf("%d: Cost: %d", i, n)
		}
	}
}

// TestSharesNothing: neither an argument nor an answer is a way into the tape.
func TestSharesNothing(t *testing.T) {
	_, x := fresh(t)
	keys := []string{"k1", "k2"}
	m := api.Msg{Kind: api.Message, Topic: "a", Keys: keys}
	add(t, x, m, sized(40), sized(50))
	if keys[0] != "k1" || keys[1] != "k2" {
		t.Error("the keys were written into")
	}
	keys[0] = "spoilt"
	want := rec.Copy(m)
	want.Keys[0] = "k1"
	for range 2 {
		r, e := x.Read(0)
		if e != api.OK || !rec.Same(r, want) {
			t.Fatalf("%+v, %d", r, e)
		}
		r.Keys[0] = "spoilt"
	}
	l := x.Ids(0)
	old := slices.Clone(l)
	l[0], l[1], l[2] = 7, 8, 9
	if !slices.Equal(x.Ids(0), old) {
		t.Fatal("the list was the tape's")
	}
	l = x.Ids(0)
	add(t, x, sized(60))
	_ = append(l, 7)
	if l := x.Ids(0); len(l) != 4 || !slices.Equal(l[:3], old) || l[3] != old[2]+50 {
		t.Fatalf("the list shares what is behind it: %v", l)
	}
}

// TestNoNameForANewSegment: what is refused leaves no filler either.
func TestNoNameForANewSegment(t *testing.T) {
	const place = 99999744 // 97656 segments are ahead of it; the next one would need nine digits
	for _, left := range []int{0, 40} {
		one := ""
		for range 4 {
			one += put(t, sized(200))
		}
		one += put(t, sized(segment-left-len(one)))
		d := with(t, place, one)
		x := open(t, d)
		ids := x.Ids(0)
		m := sized(41)
		d.Fuse(0)
		if id, e := x.Append(m); id != 0 || e != api.ErrRange {
			t.Fatalf("%d, %d", id, e)
		}
		d.Fuse(-1)
		holds(t, d, place, one)
		tells(t, x, place, place+len(one), place+len(one), ids...)
		if want := 41 + left; x.Cost(m) != want {
			t.Errorf("Cost: %d, not %d", x.Cost(m), want)
		}
		if left > 0 {
			add(t, x, sized(40))
			gives(t, x, place+segment-left, sized(40))
		}
		if at, e := x.Drop(); at != 0 || e != api.ErrNone {
			t.Errorf("Drop: %d, %d", at, e)
		}
	}
}

// TestNoNameOnAFullDisk: that it is down comes first, then that it is full, then the row's error.
func TestNoNameOnAFullDisk(t *testing.T) {
	const place = 99999744
	one := ""
	for range 4 {
		one += put(t, sized(200))
	}
	d := disk.New(len(one) + 264) // for the filler and 40 bytes
	ok(t, d.Create(name(place)), d.Write(name(place), 0, one))
	x := open(t, d)
	add(t, x, sized(200)) // 24 are left
	if _, e := x.Append(sized(41)); e != api.ErrFull {
		t.Errorf("%d", e)
	}
	if _, e := x.Append(sized(40)); e != api.ErrRange {
		t.Errorf("%d", e)
	}
	d.Fuse(0)
	if d.Sync() != api.ErrDown {
		t.Fatal("it isn't down")
	}
	for _, n := range []int{40, 41} {
		if _, e := x.Append(sized(n)); e != api.ErrDown {
			t.Errorf("%d", e)
		}
	}
}

// TestAFileInTheWay: somebody else's, where the next segment is to be.
func TestAFileInTheWay(t *testing.T) {
	for _, left := range []int{0, 30} {
		for _, s := range []string{"", "x"} {
			d, x := fresh(t)
			fill(t, x, left)
			ids, end := x.Ids(0), x.End()
			ok(t, d.Create(name(segment)), d.Write(name(segment), 0, s))
			size, waits := d.Size(), d.Waits()
			if id, e := x.Append(sized(40)); id != 0 || e != api.ErrThere {
				t.Fatalf("%d, %d", id, e)
			}
			if d.Size() != size || d.Waits() != waits {
				t.Fatal("the disk is changed")
			}
			tells(t, x, 0, end, 0, ids...)
			ok(t, d.Delete(name(segment)), d.Create(name(segment)+"0"))
			add(t, x, sized(40))
		}
	}
}

// TestASpoiltRecord: no record is told that doesn't stand there any more.
func TestASpoiltRecord(t *testing.T) {
	d, x := fresh(t)
	add(t, x, sized(40), sized(50))
	ok(t, d.Write(name(0), 39, "x"))
	if m, e := x.Read(0); !rec.Same(m, api.Msg{}) || e != api.ErrNone {
		t.Errorf("%+v, %d", m, e)
	}
	gives(t, x, 40, sized(50))
}

// TestTwoTapesHaveNoShare: each keeps what is its own disk's.
func TestTwoTapesHaveNoShare(t *testing.T) {
	_, a := fresh(t)
	_, b := fresh(t)
	add(t, a, sized(40))
	tells(t, b, 0, 0, 0)
	add(t, b, sized(50))
	gives(t, a, 0, sized(40))
	gives(t, b, 0, sized(50))
}
