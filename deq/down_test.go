package deq_test

import (
	"slices"
	"strings"
	"testing"

	"reveille/api"
	"reveille/disk"
	"reveille/pend"
)

const (
	markSize = 20
	noFuse   = -1
)

// leave leaves so much room on a disk: somebody else's file takes the rest.
func leave(t *testing.T, d *disk.Disk, room int) {
	t.Helper()
	if len(d.List("y")) == 0 {
		ok(t, d.Create("y"))
	}
	n := d.Len("y")
	if more := d.Room() - room; more >= 0 {
		ok(t, d.Write("y", n, strings.Repeat("y", more)))
	} else {
		ok(t, d.Cut("y", n+more))
	}
	if d.Room() != room {
		t.Fatalf("room for %d, not %d", d.Room(), room)
	}
}

// down lets a disk go down.
func down(t *testing.T, d *disk.Disk) {
	t.Helper()
	d.Fuse(0)
	d.Sync()
	if !d.Down() {
		t.Fatal("it isn't down")
	}
}

// TestNoRoomOnTheTape: the list stays, however often it is tried, and the hand, too; what isn't pending any more goes; with room it comes once.
func TestNoRoomOnTheTape(t *testing.T) {
	for room := range least + 3 {
		r := fresh(t, 5)
		r.timed(t, due(6))
		r.added(t, dues(4, 3, 2)...)
		leave(t, r.main, room)
		if room < least {
			r.main.Fuse(0)
			for range 3 {
				r.stays(t, 9, api.ErrFull)
				r.dueAre(t, 36, 72, 108)
			}
			r.set.Note(999, cancels(36))
			r.drops(t, 9)
			r.stays(t, 9, api.ErrFull)
			r.dueAre(t, 72, 108)
			r.main.Fuse(noFuse)
			leave(t, r.main, least)
		}
		r.brings(t, 9)
		r.stays(t, 9, api.ErrFull)
		leave(t, r.main, 1000)
		r.settles(t, 9)
		for id, l := range deliveries(t, r.tape) {
			if len(l) != 1 {
				t.Errorf("of %d: %v", id, l)
			}
		}
		if l := r.set.Pending(); len(l) != 0 {
			t.Errorf("%v are still pending", l)
		}
	}
}

// TestNoRoomForTheFirst: one that would find room waits behind one that doesn't.
func TestNoRoomForTheFirst(t *testing.T) {
	r := fresh(t, 5)
	r.added(t, scheduled(100, 4), scheduled(50, 3))
	leave(t, r.main, 99)
	r.stays(t, 5, api.ErrFull)
	r.dueAre(t, 0, 100)
	r.deq.Add(7)
	r.dueAre(t, 0, 100, 7)
	leave(t, r.main, 150)
	r.brings(t, 5)
	r.brings(t, 5)
}

// TestNoRoomForAFiller: nothing of it is left either.
func TestNoRoomForAFiller(t *testing.T) {
	r := fresh(t, 5)
	r.put(t, message(236), message(236), message(236))
	r.added(t, scheduled(200, 4)) // 116 are left
	leave(t, r.main, 315)
	for range 2 {
		r.stays(t, 5, api.ErrFull)
	}
	leave(t, r.main, 316)
	r.brings(t, 5)
}

// TestTheTapeGoesDown: while its disk is down the list stays; what isn't pending needs no disk; nor does the hand, if the list is empty.
func TestTheTapeGoesDown(t *testing.T) {
	r := fresh(t, 5)
	r.timed(t, dues(7, 7)...)
	r.added(t, dues(4, 3)...)
	r.put(t, cancels(72))
	down(t, r.main)
	r.drops(t, 9)
	for range 3 {
		r.stays(t, 9, api.ErrDown)
		r.dueAre(t, 108)
		r.busy(t, 5, true)
	}
	r.set.Note(999, cancels(108))
	r.drops(t, 9)
	r.turns(t, 9)
	r.turns(t, 9, 0, 36)
	r.stays(t, 9, api.ErrDown)
	r.set.Trim(36)
	r.drops(t, 9)
	r.stays(t, 9, api.ErrDown)
	if _, _, gone := r.set.Counts(); r.set.State(36) != pend.Waits || gone != 2 {
		t.Errorf("%d; %d gone", r.set.State(36), gone)
	}
}

// TestDownWhileItReads: what is down isn't what can't be read any more.
func TestDownWhileItReads(t *testing.T) {
	r := fresh(t, 5)
	for range 9 {
		r.added(t, scheduled(236, 4))
	}
	_, e := r.tape.Drop()
	ok(t, e)
	down(t, r.main)
	for range 4 { // these were trimmed
		r.drops(t, 5)
	}
	r.stays(t, 5, api.ErrDown)
	r.reopens(t, 5, disk.Plan{Keep: slices.Repeat([]bool{true}, 20)})
	r.deq.Add(r.tape.Begin())
	r.brings(t, 5)
}

// TestASpoiltTape: its errors leave the list, but ErrNone and ErrTrim of what is read; where it appends ErrNone is an error, too.
func TestASpoiltTape(t *testing.T) {
	r := fresh(t, 5)
	for range 5 {
		r.added(t, scheduled(236, 4))
	}
	ok(t, r.main.Rename("tape-00001024", "z"))
	for range 2 { // it can be read, but not appended
		r.stays(t, 5, api.ErrNone)
		r.dueAre(t, 0, 236, 472, 708, segment)
	}
	ok(t, r.main.Rename("z", "tape-00001024"))
	r.brings(t, 5)
	s, e := r.main.All("tape-00000000")
	ok(t, e, r.main.Cut("tape-00000000", 300))
	for range 2 { // it can't be read now, but that isn't an error by which it goes
		r.stays(t, 5, api.ErrRange)
		r.dueAre(t, 236, 472, 708, segment)
	}
	ok(t, r.main.Write("tape-00000000", 300, s[300:]))
	r.brings(t, 5)
	ok(t, r.main.Write("tape-00000000", 480, "spoilt"))
	r.drops(t, 5)
	ok(t, r.main.Rename("tape-00000000", "z"))
	r.drops(t, 5)
	r.brings(t, 5)
	r.stays(t, 5, api.OK)
}

// TestNoNameForASegment: where no segment may begin any more the list stays.
func TestNoNameForASegment(t *testing.T) {
	r := fresh(t, 5)
	last := "tape-99999744" // the last place that has a name
	s := ""
	var e api.Errno
	d := disk.New(1 << 20)
	ok(t, d.Create(last))
	r.main = d
	r.reopens(t, 5, disk.Plan{})
	r.put(t, message(236), message(236), message(236), scheduled(236, 4)) // 80 are left
	r.deq.Add(r.all[3].id)
	s, e = d.All(last)
	ok(t, e)
	for range 2 {
		r.stays(t, 5, api.ErrRange)
	}
	if x, e := d.All(last); e != api.OK || x != s || len(d.List("tape-")) != 1 {
		t.Errorf("%v, %d", d.List(""), e)
	}
}

// TestTheTimerLogGoesDown: at whichever call of its disk it does, the hand stays; made anew, all come, once.
func TestTheTimerLogGoesDown(t *testing.T) {
	const calls = 2 // what is put again, and the slot
	for fuse := range calls + 1 {
		for _, p := range []disk.Plan{{}, {Keep: []bool{true, true, false, true}}, {Keep: slices.Repeat([]bool{true}, 20), Lack: 7}} {
			r := fresh(t, 5)
			r.timed(t, dues(7, 23, 7, 23, 39)...)
			r.turns(t, 6)
			r.cache.Fuse(fuse)
			if fuse == calls {
				r.turns(t, 9, 0, 72)
				down(t, r.cache)
				r.brings(t, 9) // the tape isn't down
				r.brings(t, 9)
				r.stays(t, 9, api.ErrDown)
				r.busy(t, 9, true)
				continue
			}
			for range 2 {
				did, e := r.deq.Step(9)
				if did || e != api.ErrDown || !r.cache.Down() || r.timers.Hand() != 6 {
					t.Fatalf("fuse %d: Step: %t, %d; hand %d", fuse, did, e, r.timers.Hand())
				}
				r.dueAre(t)
			}
			r.stays(t, 6, api.OK) // nothing is asked of it then
			r.cache.Crash(p)
			r.reopens(t, 6, disk.Plan{Keep: slices.Repeat([]bool{true}, 20)})
			for _, v := range r.all {
				ok(t, r.timers.Put(v.m.Due, v.id))
			}
			r.settles(t, 39)
			r.each(t, 1)
		}
	}
}

// each fails, if one of the scheduled records was delivered another number of times.
func (r *rig) each(t *testing.T, want int) {
	t.Helper()
	l := deliveries(t, r.tape)
	for _, v := range r.all {
		if v.m.Kind == api.Scheduled && len(l[v.id]) != want {
			t.Fatalf("of %d: %v", v.id, l[v.id])
		}
	}
}

// TestNoRoomInTheTimerLog: where what is due later finds no room to be put again, the hand stays; with room all come.
func TestNoRoomInTheTimerLog(t *testing.T) {
	for room := range 2*markSize + 3 {
		r := fresh(t, 5)
		r.timed(t, dues(6, 22, 6, 38)...)
		leave(t, r.cache, room)
		if room < 2*markSize {
			for range 3 {
				r.stays(t, 6, api.ErrFull)
				r.busy(t, 6, true)
			}
			r.deq.Add(72) // that needs no timer log
			r.brings(t, 6)
			r.stays(t, 6, api.ErrFull)
			leave(t, r.cache, 2*markSize)
		}
		r.turns(t, 6, 0, 72)
		r.settles(t, 6)
		leave(t, r.cache, 1000)
		r.settles(t, 38)
		r.each(t, 1)
	}
}

// TestTheTimerLogRefuses: where its files were spoilt its error is told, and the hand stays; once they are mended all is told.
func TestTheTimerLogRefuses(t *testing.T) {
	for _, c := range []struct {
		file  string
		left  int // of its bytes; below 0: it is gone
		wants api.Errno
	}{{"w-marks", -1, api.ErrNone}, {"w-slots", -1, api.ErrNone}, {"w-marks", 39, api.ErrRange}, {"w-slots", 35, api.ErrRange}} {
		r := fresh(t, 4)
		r.timed(t, dues(5, 21)...)
		r.put(t, due(3))
		s, e := r.cache.All(c.file)
		ok(t, e)
		if c.left < 0 {
			ok(t, r.cache.Delete(c.file))
		} else {
			ok(t, r.cache.Cut(c.file, c.left))
		}
		for range 3 {
			r.stays(t, 5, c.wants)
			r.dueAre(t)
		}
		r.deq.Add(72)
		r.brings(t, 5)
		r.stays(t, 5, c.wants)
		if c.left < 0 {
			ok(t, r.cache.Create(c.file))
		}
		ok(t, r.cache.Write(c.file, max(c.left, 0), s[max(c.left, 0):]))
		r.turns(t, 5, 0)
		r.settles(t, 21)
		r.each(t, 1)
	}
}

// TestWhereverTheTapeGoesDown: opened anew, behind any crash, each record that is there comes once in all, wherever the delivering was cut short.
func TestWhereverTheTapeGoesDown(t *testing.T) {
	for fuse := range 40 {
		for kept := range 8 {
			r := fresh(t, 5)
			for i := range 9 { // four a segment: deliveries need fillers, and new segments
				r.added(t, scheduled(200+i, i%5))
			}
			r.put(t, cancels(r.all[4].id))
			ok(t, r.tape.Sync())
			was := r.all
			r.main.Fuse(fuse)
			for range 20 {
				r.deq.Step(5)
				if fuse%3 == 0 {
					r.tape.Sync()
				}
			}
			p := disk.Plan{Keep: slices.Repeat([]bool{true}, kept), Lack: fuse % 5}
			if kept == 7 {
				p = disk.Plan{Keep: []bool{true, false, true, true, true, true}}
			}
			r.reopens(t, 9, p)
			for _, v := range was {
				if v.m.Kind == api.Scheduled {
					r.deq.Add(v.id)
				}
			}
			r.settles(t, 9)
			l := deliveries(t, r.tape)
			for i, v := range was {
				if n := len(l[v.id]); v.m.Kind == api.Scheduled && (i != 4 && n != 1 || i == 4 && n != 0) {
					t.Fatalf("fuse %d, %d kept: of %d: %v", fuse, kept, v.id, l[v.id])
				}
			}
		}
	}
}
