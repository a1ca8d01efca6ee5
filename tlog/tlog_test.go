package tlog_test

import (
	"fmt"
	"math"
	"slices"
	"strings"
	"testing"

	"reveille/api"
	"reveille/disk"
	"reveille/entry"
	"reveille/tlog"
	"reveille/wheel"
)

// All tests of this package hold promise P16.1, that all are what the chapter says; TestEachIsToldOnce and what stands behind it hold P16.2.

const (
	slots = 16
	top   = 1 << 40 // the greatest time, and the greatest number of a record
)

// wrong is numbers that are neither times nor records'.
var wrong = []int{math.MinInt, -top, -256, -1, top + 1, 1 << 48, math.MaxInt}

// script is what a timer log keeps: all marks that were ever put, and the numbers of those in each slot's chain.
type script struct {
	all    []entry.Mark
	chains [slots][]int
}

// put is one mark more.
func (s *script) put(due, at, puts int) {
	slot, ahead := due&15, 0
	if c := s.chains[slot]; len(c) > 0 {
		ahead = c[len(c)-1]
	}
	s.all = append(s.all, entry.Mark{Due: due, At: at, Ahead: ahead, Puts: puts})
	s.chains[slot] = append(s.chains[slot], len(s.all))
}

// chain is a slot's marks.
func (s *script) chain(slot int) []entry.Mark {
	var l []entry.Mark
	for _, n := range s.chains[slot] {
		l = append(l, s.all[n-1])
	}
	return l
}

// take is what is told when a second's slot is taken; what is due behind that is put again.
func (s *script) take(second int) []entry.Mark {
	taken := s.chain(second & 15)
	s.chains[second&15] = nil
	var told []entry.Mark
	for _, m := range taken {
		if m.Due <= second {
			told = append(told, m)
			continue
		}
		s.put(m.Due, m.At, m.Puts+1)
	}
	return told
}

// of is what is kept behind several puts, of due, at, due, at ..
func of(l ...int) *script {
	s := &script{}
	for i := 0; i < len(l); i += 2 {
		s.put(l[i], l[i+1], 1)
	}
	return s
}

// number is a number in so many bytes, the highest first.
func number(width, n int) string {
	b := make([]byte, width)
	for i := range b {
		b[i] = byte(n >> (8 * (width - 1 - i)))
	}
	return string(b)
}

// files is a timer log's files, as chapters 7, 15 and 16 say them.
func (s *script) files() []string {
	var marks, heads strings.Builder
	for _, m := range s.all {
		marks.WriteString(number(6, m.Due) + number(6, m.At) + number(6, m.Ahead) + number(2, m.Puts))
	}
	for _, c := range s.chains {
		last := 0
		if len(c) > 0 {
			last = c[len(c)-1]
		}
		heads.WriteString(number(6, last))
	}
	return []string{"w-marks", marks.String(), "w-slots", heads.String()}
}

// with is a disk with files, of name, bytes, name, bytes .., synced.
func with(t *testing.T, capacity int, l ...string) *disk.Disk {
	t.Helper()
	d := disk.New(capacity)
	for i := 0; i < len(l); i += 2 {
		e, w, s := d.Create(l[i]), d.Write(l[i], 0, l[i+1]), d.Sync(l[i])
		if e != api.OK || w != api.OK || s != api.OK {
			t.Fatalf("%q: %d, %d, %d", l[i], e, w, s)
		}
	}
	return d
}

// holds fails, if a disk's files, or the bytes in them, are others than these.
func holds(t *testing.T, d *disk.Disk, l ...string) {
	t.Helper()
	if !d.Same(with(t, 1<<24, l...)) {
		for _, f := range d.List("") {
			s, e := d.All(f)
			t.Logf("%q: %q, %d", f, s, e)
		}
		t.Fatalf("it doesn't hold %q", l)
	}
}

func fresh(t *testing.T, d *disk.Disk, hand int) *tlog.Log {
	t.Helper()
	l, e := tlog.New(d, hand)
	if e != api.OK || l == nil {
		t.Fatalf("New at %d: %v, %d", hand, l, e)
	}
	return l
}

// begun is a timer log without marks, and its disk.
func begun(t *testing.T, hand int) (*disk.Disk, *tlog.Log) {
	t.Helper()
	d := disk.New(1 << 20)
	return d, fresh(t, d, hand)
}

// put puts records, of due, at, due, at ..
func put(t *testing.T, l *tlog.Log, list ...int) {
	t.Helper()
	for i := 0; i < len(list); i += 2 {
		if e := l.Put(list[i], list[i+1]); e != api.OK {
			t.Fatalf("Put of %d, %d: %d", list[i], list[i+1], e)
		}
	}
}

// tells fails, if a timer log tells other marks, or another hand.
func tells(t *testing.T, l *tlog.Log, s *script, hand int) {
	t.Helper()
	waits := 0
	for slot := range slots {
		waits += len(s.chains[slot])
		if c, e := l.Chain(slot); !slices.Equal(c, s.chain(slot)) || e != api.OK {
			t.Fatalf("Chain of %d: %v, %d, not %v", slot, c, e, s.chain(slot))
		}
	}
	if n := l.Len(); n != len(s.all) {
		t.Fatalf("Len: %d, not %d", n, len(s.all))
	}
	if n, e := l.Waits(); n != waits || e != api.OK {
		t.Fatalf("Waits: %d, %d, not %d", n, e, waits)
	}
	if n := l.Hand(); n != hand {
		t.Fatalf("Hand: %d, not %d", n, hand)
	}
}

// is fails, if a timer log, with a disk of its own, isn't of these marks, and this hand.
func is(t *testing.T, d *disk.Disk, l *tlog.Log, s *script, hand int) {
	t.Helper()
	holds(t, d, s.files()...)
	tells(t, l, s, hand)
}

// takes fails, if a second's slot has other marks to tell.
func takes(t *testing.T, l *tlog.Log, second int, want ...entry.Mark) {
	t.Helper()
	if c, e := l.Take(second); !slices.Equal(c, want) || e != api.OK {
		t.Fatalf("Take of %d: %v, %d, not %v", second, c, e, want)
	}
}

// goes fails, if the hand doesn't go on by one second, or has other marks to tell.
func goes(t *testing.T, l *tlog.Log, now int, want ...entry.Mark) {
	t.Helper()
	hand := l.Hand()
	if c, ok, e := l.Next(now); !slices.Equal(c, want) || !ok || e != api.OK {
		t.Fatalf("Next to %d, at %d: %v, %t, %d, not %v", now, hand, c, ok, e, want)
	}
	if l.Hand() != hand+1 {
		t.Fatalf("the hand went from %d to %d", hand, l.Hand())
	}
}

// stays fails, if the hand goes on, or something is told.
func stays(t *testing.T, l *tlog.Log, now int) {
	t.Helper()
	hand := l.Hand()
	if c, ok, e := l.Next(now); len(c) != 0 || ok || e != api.OK || l.Hand() != hand {
		t.Fatalf("Next to %d, at %d: %v, %t, %d, and the hand is %d", now, hand, c, ok, e, l.Hand())
	}
}

func TestExample(t *testing.T) {
	d, l := begun(t, 0)
	put(t, l, 20, 7)
	is(t, d, l, of(20, 7), 0)
	for range 3 {
		goes(t, l, 20)
	}
	is(t, d, l, of(20, 7), 3)
	goes(t, l, 20) // the fourth
	again := "\x00\x00\x00\x00\x00\x14\x00\x00\x00\x00\x00\x07\x00\x00\x00\x00\x00\x00\x00\x02"
	holds(t, d, "w-marks", again[:19]+"\x01"+again, "w-slots", strings.Repeat("\x00", 29)+"\x02"+strings.Repeat("\x00", 66))
	for range 15 {
		goes(t, l, 20)
	}
	if n, e := l.Waits(); n != 1 || e != api.OK || l.Len() != 2 {
		t.Errorf("Waits: %d, %d; Len: %d", n, e, l.Len())
	}
	goes(t, l, 20, entry.Mark{Due: 20, At: 7, Puts: 2}) // the twentieth
	stays(t, l, 20)
	if n, e := l.Waits(); n != 0 || e != api.OK || l.Len() != 2 {
		t.Errorf("Waits: %d, %d; Len: %d", n, e, l.Len())
	}
	holds(t, d, "w-marks", again[:19]+"\x01"+again, "w-slots", strings.Repeat("\x00", 96))
}

func TestALogWithoutMarks(t *testing.T) {
	for _, hand := range []int{0, 1, 15, 16, 96, top - 1, top} {
		d, l := begun(t, hand)
		holds(t, d, "w-marks", "", "w-slots", strings.Repeat("\x00", 96))
		is(t, d, l, of(), hand)
		takes(t, l, hand)
		stays(t, l, hand)
		goes(t, l, hand+1)
		is(t, d, l, of(), hand+1)
	}
}

func TestHandsThatMayNotBe(t *testing.T) {
	for _, hand := range wrong {
		d := with(t, 1000, "w-slots", "old", "w-marks", "older")
		d.Fuse(0)
		if l, e := tlog.New(d, hand); l != nil || e != api.ErrArg {
			t.Errorf("New at %d: %v, %d", hand, l, e)
		}
		if l, e := tlog.New(nil, hand); l != nil || e != api.ErrArg {
			t.Errorf("New of nil at %d: %v, %d", hand, l, e)
		}
		holds(t, d, "w-slots", "old", "w-marks", "older")
		if d.Down() {
			t.Errorf("at %d the disk was asked", hand)
		}
	}
}

func TestNewDeletesWhatThereIs(t *testing.T) {
	others := []string{"w", "z", "marks", "1", "aw-marks", "2", "", "3", "x-slots", "4", "groups", "5"}
	old := of(20, 7, 3, 9).files()
	d := with(t, 1000, append(append([]string{"w-", "x", "w-marks2", "y"}, old...), others...)...)
	for _, hand := range []int{0, 5, 30} {
		l := fresh(t, d, hand)
		holds(t, d, append(others, of().files()...)...)
		tells(t, l, of(), hand)
		put(t, l, 37, 5, 53, 6)
		holds(t, d, append(others, of(37, 5, 53, 6).files()...)...)
	}
}

// TestTheBytesOfMarks: six of when it is due, six of the record's number, six of the one ahead of it, two of how often it was put.
func TestTheBytesOfMarks(t *testing.T) {
	d, l := begun(t, 0)
	put(t, l, 0x0102030405, 0x060708090a, 0xfefdfcfbf5, 0, 9, top)
	holds(t, d, "w-marks", "\x00\x01\x02\x03\x04\x05\x00\x06\x07\x08\x09\x0a\x00\x00\x00\x00\x00\x00\x00\x01"+
		"\x00\xfe\xfd\xfc\xfb\xf5\x00\x00\x00\x00\x00\x00\x00\x00\x00\x00\x00\x01\x00\x01"+
		"\x00\x00\x00\x00\x00\x09\x01\x00\x00\x00\x00\x00\x00\x00\x00\x00\x00\x00\x00\x01",
		"w-slots", strings.Repeat("\x00", 35)+"\x02"+strings.Repeat("\x00", 23)+"\x03"+strings.Repeat("\x00", 36))
}

// TestChains: each mark is the last one of its slot's, and tells the one ahead of it there, whatever was put into the others.
func TestChains(t *testing.T) {
	d, l := begun(t, 2)
	put(t, l, 3, 10, 19, 11, 4, 12, 3, 13, 16, 14, 32, 15, 3, 10, 31, 0)
	for slot, want := range map[int][]entry.Mark{
		3:  {{Due: 3, At: 10, Puts: 1}, {Due: 19, At: 11, Ahead: 1, Puts: 1}, {Due: 3, At: 13, Ahead: 2, Puts: 1}, {Due: 3, At: 10, Ahead: 4, Puts: 1}},
		4:  {{Due: 4, At: 12, Puts: 1}},
		0:  {{Due: 16, At: 14, Puts: 1}, {Due: 32, At: 15, Ahead: 5, Puts: 1}},
		15: {{Due: 31, Puts: 1}},
		5:  nil, 1: nil, 2: nil, 14: nil,
	} {
		if c, e := l.Chain(slot); !slices.Equal(c, want) || e != api.OK {
			t.Errorf("Chain of %d: %v, %d", slot, c, e)
		}
	}
	if n, e := l.Waits(); n != 8 || e != api.OK || l.Len() != 8 {
		t.Errorf("Waits: %d, %d; Len: %d", n, e, l.Len())
	}
	is(t, d, l, of(3, 10, 19, 11, 4, 12, 3, 13, 16, 14, 32, 15, 3, 10, 31, 0), 2)
}

func TestSlotsThatThereAreNot(t *testing.T) {
	d, l := begun(t, 0)
	put(t, l, 16, 5)
	d.Fuse(0)
	for range 2 {
		for _, slot := range []int{math.MinInt, -16, -1, 16, 17, 32, 256, math.MaxInt} {
			if c, e := l.Chain(slot); len(c) != 0 || e != api.ErrRange {
				t.Errorf("Chain of %d: %v, %d", slot, c, e)
			}
		}
		d.Sync() // the slot comes ahead of what the disk tells
	}
}

// untouched makes calls while the disk is up, and while it is down; none may be one of the disk.
func untouched(t *testing.T, d *disk.Disk, l *tlog.Log, s *script, calls func()) {
	t.Helper()
	hand := l.Hand()
	d.Fuse(0)
	calls()
	is(t, d, l, s, hand)
	if d.Sync() != api.ErrDown {
		t.Fatal("there is no fuse any more")
	}
	calls()
	d.Crash(all(d))
	is(t, d, l, s, hand)
}

func TestNumbersThatMayNotBe(t *testing.T) {
	d, l := begun(t, 7)
	put(t, l, 20, 7)
	untouched(t, d, l, of(20, 7), func() {
		for _, n := range wrong {
			for _, x := range append([]int{0, 5, 7, 8, 20, top}, wrong...) { // also of what is too late
				if e := l.Put(n, x); e != api.ErrArg {
					t.Errorf("Put of %d, %d: %d", n, x, e)
				}
				if e := l.Put(x, n); e != api.ErrArg {
					t.Errorf("Put of %d, %d: %d", x, n, e)
				}
			}
		}
		for _, n := range []int{math.MinInt, -top, -16, -12, -1} {
			if c, e := l.Take(n); len(c) != 0 || e != api.ErrArg {
				t.Errorf("Take of %d: %v, %d", n, c, e)
			}
		}
	})
}

func TestTooLate(t *testing.T) {
	for _, hand := range []int{0, 1, 7, 16, 300, top - 1, top} {
		d, l := begun(t, hand)
		untouched(t, d, l, of(), func() {
			for _, due := range []int{hand, hand - 1, hand - 16, hand - 200, 0} {
				if due < 0 {
					continue
				}
				for _, at := range []int{0, 5, top} {
					if e := l.Put(due, at); e != api.ErrLate {
						t.Errorf("at %d: Put of %d, %d: %d", hand, due, at, e)
					}
				}
			}
		})
	}
}

// TestTooLateAsTheHandGoesOn: a second that was told is over, also where its slot was taken ahead of that.
func TestTooLateAsTheHandGoesOn(t *testing.T) {
	_, l := begun(t, 5)
	for hand := 5; hand < 40; hand++ {
		if e := l.Put(hand, 1); e != api.ErrLate {
			t.Fatalf("at %d: Put: %d", hand, e)
		}
		takes(t, l, hand+1)
		put(t, l, hand+1, hand)
		goes(t, l, hand+1, entry.Mark{Due: hand + 1, At: hand, Puts: 1})
	}
}

// TestTheGreatestTimes: they are due, too; no record can be put for the hand that stands there.
func TestTheGreatestTimes(t *testing.T) {
	_, l := begun(t, top-18)
	put(t, l, top, top, top-2, top-1)
	for range 15 {
		goes(t, l, math.MaxInt)
	}
	goes(t, l, math.MaxInt, entry.Mark{Due: top - 2, At: top - 1, Puts: 1}) // the hand stood at its slot, and didn't come to it
	goes(t, l, math.MaxInt)
	goes(t, l, math.MaxInt, entry.Mark{Due: top, At: top, Puts: 2})
	stays(t, l, top)
	goes(t, l, top+1)
	if e := l.Put(top, 5); e != api.ErrLate {
		t.Errorf("Put: %d", e)
	}
}

// TestTake: what is due at that second, or was due ahead of it, is told; what is due behind it is put again, in order; the other slots, and the hand, stay.
func TestTake(t *testing.T) {
	records := []int{20, 1, 4, 2, 36, 3, 4, 4, 5, 5, 20, 6, 52, 7, 19, 8, 20, 1}
	for _, second := range []int{4, 20, 36, 52, 68, 4 + 16*1000, top + 4, math.MaxInt - 11, 5, 3, 0, 16, 19, 21} {
		d, l := begun(t, 3)
		put(t, l, records...)
		s := of(records...)
		want := s.take(second)
		takes(t, l, second, want...)
		is(t, d, l, s, 3)
		takes(t, l, second)
		takes(t, l, second)
	}
}

// TestTakeByHand says what is told, and what is left, mark by mark.
func TestTakeByHand(t *testing.T) {
	_, l := begun(t, 3)
	put(t, l, 20, 1, 4, 2, 36, 3, 4, 4, 20, 5, 5, 6)
	takes(t, l, 4, entry.Mark{Due: 4, At: 2, Ahead: 1, Puts: 1}, entry.Mark{Due: 4, At: 4, Ahead: 3, Puts: 1})
	want := []entry.Mark{{Due: 20, At: 1, Puts: 2}, {Due: 36, At: 3, Ahead: 7, Puts: 2}, {Due: 20, At: 5, Ahead: 8, Puts: 2}}
	if c, e := l.Chain(4); !slices.Equal(c, want) || e != api.OK {
		t.Fatalf("Chain: %v, %d", c, e)
	}
	if n, e := l.Waits(); n != 4 || e != api.OK || l.Len() != 9 || l.Hand() != 3 {
		t.Fatalf("Waits: %d, %d; Len: %d; Hand: %d", n, e, l.Len(), l.Hand())
	}
	put(t, l, 4, 9) // behind those that were put again
	takes(t, l, 20, want[0], want[2], entry.Mark{Due: 4, At: 9, Ahead: 9, Puts: 1})
	want = []entry.Mark{{Due: 36, At: 3, Puts: 3}}
	if c, e := l.Chain(4); !slices.Equal(c, want) || e != api.OK || l.Len() != 11 {
		t.Fatalf("Chain: %v, %d; Len: %d", c, e, l.Len())
	}
	takes(t, l, 20)
	takes(t, l, 36, entry.Mark{Due: 36, At: 3, Puts: 4})
	takes(t, l, 5, entry.Mark{Due: 5, At: 6, Puts: 1})
	if n, e := l.Waits(); n != 0 || e != api.OK || l.Len() != 12 {
		t.Fatalf("Waits: %d, %d; Len: %d", n, e, l.Len())
	}
}

// TestRolledOnThoughTheHandIsBeyond: it was put in time; nothing is late that is put again.
func TestRolledOnThoughTheHandIsBeyond(t *testing.T) {
	d, l := begun(t, 3)
	put(t, l, 20, 1, 36, 2)
	for range 40 {
		l.Turn(43) // the wheel's
	}
	s := of(20, 1, 36, 2)
	s.take(4)
	takes(t, l, 4)
	is(t, d, l, s, 43)
	takes(t, l, 20, entry.Mark{Due: 20, At: 1, Puts: 2})
	takes(t, l, 36, entry.Mark{Due: 36, At: 2, Puts: 3})
}

// TestNext: second by second, up to now, and not beyond.
func TestNext(t *testing.T) {
	for _, c := range []struct{ hand, now int }{{0, 0}, {0, 1}, {0, 40}, {5, 4}, {5, 5}, {5, 6}, {15, 16}, {14, 33}, {7, -1}, {9, math.MinInt}, {top, 3}, {top - 3, top}, {top, top + 5}} {
		d, l := begun(t, c.hand)
		s := of()
		for _, off := range []int{1, 2, 16, 17, 33, 1} {
			if due := c.hand + off; due <= top {
				put(t, l, due, off)
				s.put(due, off, 1)
			}
		}
		for second := c.hand + 1; second <= c.now; second++ {
			goes(t, l, c.now, s.take(second)...)
			is(t, d, l, s, second)
		}
		for _, now := range []int{c.now, math.MinInt, -1, 0, c.now} {
			stays(t, l, now)
		}
		is(t, d, l, s, max(c.hand, c.now))
	}
}

// TestNothingToDoIsNoCall: neither an empty slot, nor a hand that has nowhere to go, is a call that changes something; while the disk is down the one can't be told.
func TestNothingToDoIsNoCall(t *testing.T) {
	d, l := begun(t, 5)
	put(t, l, 20, 7)
	d.Fuse(0)
	takes(t, l, 5)
	goes(t, l, 6)
	stays(t, l, 6)
	if d.Down() {
		t.Fatal("it was a call")
	}
	is(t, d, l, of(20, 7), 6)
	if d.Sync() != api.ErrDown {
		t.Fatal("there is no fuse any more")
	}
	stays(t, l, 6)
	if c, e := l.Take(5); len(c) != 0 || e != api.ErrDown {
		t.Errorf("Take: %v, %d", c, e)
	}
}

// TestEachIsToldOnce: by the Next of the second at which it is due, however the hand's steps and the puts lie, and whatever was put for the same second.
func TestEachIsToldOnce(t *testing.T) {
	for _, hand := range []int{0, 3, 15, 16, 1000003, top - 400} {
		_, l := begun(t, hand)
		told := map[int]int{}
		at := 0
		for l.Hand() < hand+330 {
			for range at*7%5 + 1 {
				due := l.Hand() + 1 + at*at*31%200
				if due > hand+330 {
					due = l.Hand() + 1
				}
				put(t, l, due, due<<10%(top-5000)+at) // it tells when it is due, too
				at++
			}
			for range at % 4 {
				if l.Hand() == hand+330 {
					break
				}
				c, ok, e := l.Next(hand + 330)
				if !ok || e != api.OK {
					t.Fatalf("Next: %t, %d", ok, e)
				}
				for _, m := range c {
					told[m.At]++
					if m.Due != l.Hand() || m.At < m.Due<<10%(top-5000) {
						t.Fatalf("at %d: %v", l.Hand(), m)
					}
				}
			}
		}
		if n, e := l.Waits(); n != 0 || e != api.OK {
			t.Errorf("Waits: %d, %d", n, e)
		}
		for at, n := range told {
			if n != 1 {
				t.Errorf("%d was told %d times", at, n)
			}
		}
		if len(told) != at {
			t.Errorf("%d were put, %d told", at, len(told))
		}
	}
}

// TestOneRecordTwice: put twice, each of the two is told, at its second.
func TestOneRecordTwice(t *testing.T) {
	_, l := begun(t, 0)
	put(t, l, 2, 7, 1, 7, 2, 7)
	goes(t, l, 9, entry.Mark{Due: 1, At: 7, Puts: 1})
	goes(t, l, 9, entry.Mark{Due: 2, At: 7, Puts: 1}, entry.Mark{Due: 2, At: 7, Ahead: 1, Puts: 1})
	goes(t, l, 9)
}

// TestInWhichOrderTheyCome: those of one second as they were put, though some were put again in between.
func TestInWhichOrderTheyCome(t *testing.T) {
	_, l := begun(t, 0)
	put(t, l, 40, 1, 40, 2)
	for range 10 {
		goes(t, l, 40)
	}
	put(t, l, 40, 3)
	for range 16 {
		goes(t, l, 40)
	}
	put(t, l, 40, 4)
	for range 13 {
		goes(t, l, 40)
	}
	c, ok, e := l.Next(40)
	var ids, puts []int
	for _, m := range c {
		ids, puts = append(ids, m.At), append(puts, m.Puts)
	}
	if !slices.Equal(ids, []int{1, 2, 3, 4}) || !slices.Equal(puts, []int{3, 3, 2, 1}) || !ok || e != api.OK {
		t.Errorf("%v, %v, %t, %d", ids, puts, ok, e)
	}
}

// TestPutTooOftenToBeTold: behind the greatest number that two bytes tell a record is rolled on all the same, and comes when it is due.
func TestPutTooOftenToBeTold(t *testing.T) {
	for _, c := range []struct {
		puts, want int
	}{{254, 255}, {255, 256}, {65533, 65534}, {65534, 65535}, {65535, 65535}} {
		d, l := begun(t, 3)
		put(t, l, 36, 5)
		if e := d.Write("w-marks", 18, number(2, c.puts)); e != api.OK {
			t.Fatal(e)
		}
		takes(t, l, 4)
		want := []entry.Mark{{Due: 36, At: 5, Puts: c.want}}
		if m, e := l.Chain(4); !slices.Equal(m, want) || e != api.OK || l.Len() != 2 {
			t.Errorf("of %d: %v, %d", c.puts, m, e)
		}
		takes(t, l, 36, want...)
	}
}

// TestFarOff: a record that is put again as often as can be told, and more often.
func TestFarOff(t *testing.T) {
	d := disk.New(1 << 24)
	l := fresh(t, d, 0)
	put(t, l, top, 5)
	for i := range 1<<16 + 100 {
		if c, e := l.Take(16 * i); len(c) != 0 || e != api.OK {
			t.Fatalf("Take: %v, %d", c, e)
		}
	}
	if c, e := l.Chain(0); len(c) != 1 || c[0].Puts != 1<<16-1 || e != api.OK || l.Len() != 1<<16+101 {
		t.Errorf("Chain: %v, %d; Len: %d", c, e, l.Len())
	}
	takes(t, l, top, entry.Mark{Due: top, At: 5, Puts: 1<<16 - 1})
}

// TestTheHandIsNotKept: a timer log that is made anew has the hand that is handed in, and no marks.
func TestTheHandIsNotKept(t *testing.T) {
	d, l := begun(t, 5)
	put(t, l, 20, 7)
	for range 4 {
		goes(t, l, 9)
	}
	for _, hand := range []int{0, 9, 4, top} {
		l = fresh(t, d, hand)
		is(t, d, l, of(), hand)
	}
}

// TestTwoLogs: each has a disk, a hand and marks of its own.
func TestTwoLogs(t *testing.T) {
	d, l := begun(t, 5)
	o, x := begun(t, 80)
	put(t, l, 20, 7, 23, 8)
	put(t, x, 84, 9)
	goes(t, x, 90)
	goes(t, l, 9)
	is(t, d, l, of(20, 7, 23, 8), 6)
	is(t, o, x, of(84, 9), 81)
}

// TestWhatIsAnsweredIsNobodyElses: neither an answer that is written into, nor one that is added to, changes the timer log, or another answer.
func TestWhatIsAnsweredIsNobodyElses(t *testing.T) {
	d, l := begun(t, 3)
	put(t, l, 4, 1, 20, 2, 4, 3, 36, 4)
	for range 2 {
		c, _ := l.Chain(4)
		clear(c)
		clear(append(c[:1], entry.Mark{Due: 1}, entry.Mark{Due: 2}))
		is(t, d, l, of(4, 1, 20, 2, 4, 3, 36, 4), 3)
	}
	s := of(4, 1, 20, 2, 4, 3, 36, 4)
	s.take(4)
	c, _ := l.Take(4)
	clear(c[:cap(c)])
	is(t, d, l, s, 3)
	c, ok, e := l.Next(4)
	if len(c) != 0 || !ok || e != api.OK {
		t.Fatalf("Next: %v, %t, %d", c, ok, e)
	}
	s.take(4)
	is(t, d, l, s, 4)
}

func TestNil(t *testing.T) {
	for _, hand := range []int{0, 5, top} {
		if l, e := tlog.New(nil, hand); l != nil || e != api.ErrArg {
			t.Errorf("New: %v, %d", l, e)
		}
	}
	var l *tlog.Log
	for _, n := range []int{0, 5, 15, 16, -1, math.MaxInt, math.MinInt} {
		if e := l.Put(n, n); e != api.ErrArg {
			t.Errorf("Put of %d: %d", n, e)
		}
		if c, e := l.Chain(n); len(c) != 0 || e != api.ErrArg {
			t.Errorf("Chain of %d: %v, %d", n, c, e)
		}
		if c, e := l.Take(n); len(c) != 0 || e != api.ErrArg {
			t.Errorf("Take of %d: %v, %d", n, c, e)
		}
		if c, ok, e := l.Next(n); len(c) != 0 || ok || e != api.ErrArg {
			t.Errorf("Next to %d: %v, %t, %d", n, c, ok, e)
		}
	}
	if n, e := l.Waits(); n != 0 || e != api.ErrArg {
		t.Errorf("Waits: %d, %d", n, e)
	}
	if l.Len() != 0 || l.Hand() != 0 {
		t.Errorf("Len: %d; Hand: %d", l.Len(), l.Hand())
	}
}

// TestWhatNewDidNotMake: such a timer log has no wheel, or one without a disk; nothing panics.
func TestWhatNewDidNotMake(t *testing.T) {
	for _, l := range []*tlog.Log{{}, {Wheel: &wheel.Wheel{}}} {
		if e := l.Put(20, 1); e != api.ErrArg {
			t.Errorf("Put: %d", e)
		}
		if c, e := l.Chain(0); len(c) != 0 || e != api.ErrArg {
			t.Errorf("Chain: %v, %d", c, e)
		}
		if c, e := l.Take(0); len(c) != 0 || e != api.ErrArg {
			t.Errorf("Take: %v, %d", c, e)
		}
		if n, e := l.Waits(); n != 0 || e != api.ErrArg {
			t.Errorf("Waits: %d, %d", n, e)
		}
		stays(t, l, 0)
		l.Next(5)
		if l.Len() != 0 || l.Hand() != 0 {
			t.Errorf("Len: %d; Hand: %d", l.Len(), l.Hand())
		}
	}
}

// TestManyLaps: how often a record is put again is how often the hand goes by its slot.
func TestManyLaps(t *testing.T) {
	for off := 1; off <= 200; off++ {
		t.Run(fmt.Sprint(off), func(t *testing.T) {
			_, l := begun(t, 9)
			put(t, l, 9+off, off)
			laps := (off - 1) / 16
			for range off - 1 {
				goes(t, l, 300)
			}
			if l.Len() != 1+laps {
				t.Errorf("Len: %d, not %d", l.Len(), 1+laps)
			}
			goes(t, l, 300, entry.Mark{Due: 9 + off, At: off, Puts: 1 + laps})
			if n, e := l.Waits(); n != 0 || e != api.OK || l.Len() != 1+laps {
				t.Errorf("Waits: %d, %d; Len: %d", n, e, l.Len())
			}
		})
	}
}
