package enq_test

import (
	"slices"
	"strings"
	"testing"

	"reveille/api"
	"reveille/disk"
	"reveille/tape"
)

const (
	markSize = 20
	noFuse   = -1
)

// leave leaves so much room on the timer log's disk: somebody else's file takes the rest.
func (r *rig) leave(t *testing.T, room int) {
	t.Helper()
	if len(r.cache.List("y")) == 0 {
		ok(t, r.cache.Create("y"))
	}
	n := r.cache.Len("y")
	if more := r.cache.Room() - room; more >= 0 {
		ok(t, r.cache.Write("y", n, strings.Repeat("y", more)))
	} else {
		ok(t, r.cache.Cut("y", n+more))
	}
	if r.cache.Room() != room {
		t.Fatalf("room for %d, not %d", r.cache.Room(), room)
	}
}

// down lets a disk go down.
func down(t *testing.T, d *disk.Disk) {
	t.Helper()
	d.Fuse(0)
	d.Sync()
	if !d.Down() {
		t.Fatal("it isn't down")
	}
}

// TestNoRoom: of a record that finds no room in the timer log nothing is left, however often it is looked at; with room it is put once.
func TestNoRoom(t *testing.T) {
	for room := range markSize + 3 {
		r := fresh(t, 5)
		r.synced(t, dues(30, 4, 30, 3, 20)...)
		r.steps(t, 2)
		r.leave(t, room)
		if room < markSize {
			r.cache.Fuse(0)
			for range 3 {
				r.stays(t, api.ErrFull)
				r.stands(t, r.all[2].id, 3)
				r.has(t, r.all[0])
			}
			if n, e := r.enq.All(); n != 0 || e != api.ErrFull || r.cache.Down() {
				t.Fatalf("All: %d, %d; down: %t", n, e, r.cache.Down())
			}
			r.cache.Fuse(noFuse)
			r.leave(t, markSize)
		}
		r.steps(t, 1)
		r.stands(t, r.all[3].id, 2)
		r.has(t, r.all[0], r.all[2])
		r.steps(t, 1) // that is late, and needs no room
		r.stays(t, api.ErrFull)
		r.lateAre(t, r.all[1].id, r.all[3].id)
		r.leave(t, markSize)
		r.steps(t, 1)
		r.has(t, r.all[0], r.all[2], r.all[4])
		r.lateAre(t)
	}
}

// TestTheCursorStays: also where other kinds would be gone over ahead of what is refused; it is where the tape begins, if that is behind it.
func TestTheCursorStays(t *testing.T) {
	r := fresh(t, 5)
	r.synced(t, slices.Concat(dues(9), others(), dues(10))...)
	r.steps(t, 1)
	r.leave(t, markSize-1)
	for range 3 {
		r.stays(t, api.ErrFull)
		r.stands(t, 36, 1)
	}
	r.synced(t, message(200), message(200), message(200), message(200), message(200), due(20))
	_, e := r.tape.Drop()
	ok(t, e)
	begin := r.tape.Begin()
	if ids := r.tape.Ids(0); len(ids) < 2 || begin != segment {
		t.Fatalf("begin %d, %v", begin, ids)
	}
	for range 3 {
		r.stays(t, api.ErrFull)
		r.stands(t, begin, 1)
	}
	r.leave(t, markSize)
	r.steps(t, 1)
	r.stands(t, r.tape.End(), 0)
	r.has(t, r.all[0], r.all[len(r.all)-1])
}

// TestAllUpToAnError: how many were done ahead of it, and it.
func TestAllUpToAnError(t *testing.T) {
	for n := range 8 {
		r := fresh(t, 5)
		for i := range 8 {
			r.put(t, message(40), due(9+i), due(i%5))
		}
		ok(t, r.tape.Sync())
		r.leave(t, markSize*n+markSize-1)
		if done, e := r.enq.All(); done != 2*n || e != api.ErrFull {
			t.Errorf("All: %d, %d, not %d", done, e, 2*n)
		}
		var want []item
		var late []int
		for i := range n {
			want, late = append(want, r.all[3*i+1]), append(late, r.all[3*i+2].id)
		}
		r.has(t, want...)
		r.lateAre(t, late...)
		r.stands(t, r.all[3*n].id, 16-2*n)
		r.leave(t, 1000)
		if done, e := r.enq.All(); done != 16-2*n || e != api.OK {
			t.Errorf("All: %d, %d, not %d", done, e, 16-2*n)
		}
	}
}

// TestTheTimerLogGoesDown: at whichever call of its disk it does, the cursor stays; made anew, it is as if it hadn't.
func TestTheTimerLogGoesDown(t *testing.T) {
	const calls = 2 // the mark, and its slot
	for fuse := range calls + 1 {
		for _, p := range []disk.Plan{{}, {Keep: []bool{true, true, false, true}}, {Keep: slices.Repeat([]bool{true}, 20), Lack: 7}} {
			r := fresh(t, 5)
			r.synced(t, slices.Concat(dues(9, 4), others(), dues(25, 41))...)
			r.steps(t, 2)
			r.cache.Fuse(fuse)
			if fuse == calls {
				r.steps(t, 1)
				r.stays(t, api.ErrDown)
				r.stands(t, r.all[6].id, 1)
				continue
			}
			for range 2 {
				r.stays(t, api.ErrDown)
				r.stands(t, 72, 2)
				if n, e := r.enq.All(); n != 0 || e != api.ErrDown || !r.cache.Down() {
					t.Fatalf("fuse %d: All: %d, %d", fuse, n, e)
				}
			}
			r.lateAre(t, 36)
			r.cache.Crash(p)
			r.again(t, 5)
			r.has(t)
			r.steps(t, 4)
			r.has(t, r.all[0], r.all[5], r.all[6])
			r.lateAre(t, 36)
		}
	}
}

// TestWhatNeedsNoTimerLog: what is late, or over, or of another kind, is looked at also while that is down.
func TestWhatNeedsNoTimerLog(t *testing.T) {
	r := fresh(t, 5)
	r.synced(t, slices.Concat(dues(4, 9), others(), dues(5, 10), others(), dues(3))...)
	for _, v := range r.all {
		if v.m.Kind == api.Scheduled && v.m.Due > 5 {
			r.put(t, api.Msg{Kind: api.Cancel, Ref: v.id})
		}
	}
	ok(t, r.tape.Sync())
	end := r.tape.End()
	r.synced(t, due(9))
	down(t, r.cache)
	r.steps(t, 5)
	r.stays(t, api.ErrDown)
	r.stands(t, r.all[10].id+36, 1)
	if r.all[13].id != end || r.timers.Len() != 0 {
		t.Fatalf("%v; %d marks", r.all, r.timers.Len())
	}
	r.lateAre(t, r.all[0].id, r.all[5].id, r.all[10].id)
}

// TestTheTapeGoesDown: while its disk is down no record can be looked at; where none is left nothing is asked; as many are left as ahead of that.
func TestTheTapeGoesDown(t *testing.T) {
	for steps := range 4 {
		r := fresh(t, 5)
		r.synced(t, slices.Concat(others(), dues(9, 4), others(), dues(10))...)
		r.steps(t, steps)
		cursor, want := r.enq.Cursor(), api.ErrDown
		if steps == 3 {
			want = api.OK
		}
		r.put(t, message(60), due(11), api.Msg{Kind: api.Cancel, Ref: r.all[8].id}) // one that is over is left, too
		down(t, r.main)
		r.stays(t, want)
		if n, e := r.enq.All(); n != 0 || e != want {
			t.Errorf("All: %d, %d", n, e)
		}
		r.stands(t, cursor, 3-steps)
		r.has(t, [][]item{{}, {r.all[3]}, {r.all[3]}, {r.all[3], r.all[8]}}[steps]...)
		r.lateAre(t, [][]int{{}, {}, {r.all[4].id}, {r.all[4].id}}[steps]...)
	}
}

// TestBothGoDown: the tape's error comes ahead of the timer log's, as its record is read first.
func TestBothGoDown(t *testing.T) {
	r := fresh(t, 5)
	r.synced(t, due(9))
	r.leave(t, 0)
	r.stays(t, api.ErrFull)
	down(t, r.main)
	r.stays(t, api.ErrDown)
	r.stands(t, 0, 1)
	r.main.Crash(disk.Plan{})
	r.stays(t, api.ErrFull)
}

// TestASpoiltTape: a record that somebody else wrote over can't be looked at; nothing ahead of it is gone over, and nothing behind it comes.
func TestASpoiltTape(t *testing.T) {
	for _, c := range []struct {
		m    api.Msg
		left int // with the one behind it; of what was noted as scheduled it is told that it is left
	}{{scheduled(60, 9), 2}, {message(60), 1}} {
		r := fresh(t, 5)
		r.synced(t, due(8), message(50), c.m, due(10))
		r.steps(t, 1)
		ok(t, r.main.Write("tape-00000000", r.all[2].id+5, "spoilt"))
		for range 2 {
			r.stays(t, api.ErrNone)
			r.stands(t, 36, c.left)
			r.has(t, r.all[0])
			r.lateAre(t)
		}
	}
}

// TestTheTimerLogRefuses: where its files were spoilt its error is told, and the cursor stays; once they are mended the record is put once.
func TestTheTimerLogRefuses(t *testing.T) {
	for i, c := range []struct {
		spoil, mend func(d *disk.Disk) api.Errno
		want        api.Errno
	}{
		{func(d *disk.Disk) api.Errno { return d.Rename("w-marks", "z") }, func(d *disk.Disk) api.Errno { return d.Rename("z", "w-marks") }, api.ErrNone},
		{func(d *disk.Disk) api.Errno { return d.Rename("w-slots", "z") }, func(d *disk.Disk) api.Errno { return d.Rename("z", "w-slots") }, api.ErrNone},
		{func(d *disk.Disk) api.Errno { return d.Cut("w-slots", 84) }, func(d *disk.Disk) api.Errno { return d.Write("w-slots", 84, strings.Repeat("\x00", 12)) }, api.ErrRange},
	} {
		r := fresh(t, 5)
		r.synced(t, dues(20, 31, 4, 15)...)
		r.steps(t, 1)
		ok(t, c.spoil(r.cache))
		for range 3 {
			r.stays(t, c.want)
			r.stands(t, 36, 3)
			if r.timers.Len() != 1 {
				t.Fatalf("row %d: %d marks", i, r.timers.Len())
			}
		}
		r.lateAre(t)
		ok(t, c.mend(r.cache))
		r.steps(t, 3)
		r.stays(t, api.OK)
		r.has(t, r.all[0], r.all[1], r.all[3])
		r.lateAre(t, r.all[2].id)
	}
}

// TestARefusedRecordThatIsOver: what is over by the time it is looked at once more doesn't come.
func TestARefusedRecordThatIsOver(t *testing.T) {
	r := fresh(t, 5)
	r.synced(t, dues(9, 10)...)
	r.leave(t, 0)
	r.stays(t, api.ErrFull)
	r.put(t, api.Msg{Kind: api.Cancel, Ref: 0})
	r.steps(t, 1)
	r.leave(t, 100)
	r.steps(t, 1)
	r.has(t, r.all[1])
	r.lateAre(t)
}

// TestARefusedRecordThatIsLate: what is due by the time it is looked at once more is late.
func TestARefusedRecordThatIsLate(t *testing.T) {
	r := fresh(t, 5)
	r.synced(t, dues(6, 7)...)
	r.leave(t, 0)
	r.stays(t, api.ErrFull)
	_, _, e := r.timers.Next(9)
	ok(t, e)
	r.steps(t, 1)
	r.stays(t, api.ErrFull)
	r.leave(t, 100)
	r.steps(t, 1)
	r.has(t, r.all[1])
	r.lateAre(t, 0)
}

// TestWhereverATapeGoesDown: opened anew, behind any crash, what is there of it comes, once, and nothing else.
func TestWhereverATapeGoesDown(t *testing.T) {
	for fuse := range 30 {
		for _, p := range []disk.Plan{{}, {Keep: slices.Repeat([]bool{true}, 40), Lack: fuse}} {
			r := fresh(t, 5)
			r.main.Fuse(fuse)
			for i := range 12 {
				m := scheduled(100+i, i)
				id, e := r.tape.Append(m)
				if e != api.OK {
					break
				}
				r.all = append(r.all, item{id, m})
				r.set.Note(id, m)
				r.tape.Sync()
				r.enq.All()
			}
			r.enq.Late()
			r.main.Crash(p)
			var e api.Errno
			r.tape, e = tape.Open(r.main)
			ok(t, e)
			ids := r.tape.Ids(0)
			r.all = slices.DeleteFunc(r.all, func(v item) bool { return !slices.Contains(ids, v.id) })
			r.noteAnew(r.all...)
			r.again(t, 5)
			r.stands(t, 0, len(r.all))
			r.goesOn(t, len(r.all))
			n := min(6, len(r.all))
			r.has(t, r.all[n:]...)
			r.lateAre(t, ids[:n]...)
		}
	}
}
