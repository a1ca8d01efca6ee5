package disp_test

import (
	"slices"
	"strings"
	"testing"

	"reveille/api"
	"reveille/cq"
	"reveille/disk"
	"reveille/disp"
	"reveille/keyx"
	"reveille/tape"
)

const (
	entrySize = 20
	noFuse    = -1
)

// all keeps all that waits.
func all(d *disk.Disk) disk.Plan { return disk.Plan{Keep: slices.Repeat([]bool{true}, d.Waits())} }

// leave leaves so much room on what is derived: somebody else's file takes the rest.
func (r *rig) leave(t *testing.T, room int) {
	t.Helper()
	if len(r.cache.List("y")) == 0 {
		ok(t, r.cache.Create("y"))
	}
	n := r.cache.Len("y")
	if more := r.cache.Room() - room; more >= 0 {
		ok(t, r.cache.Write("y", n, strings.Repeat("y", more)))
	} else {
		ok(t, r.cache.Cut("y", n+more))
	}
	if r.cache.Room() != room {
		t.Fatalf("room for %d, not %d", r.cache.Room(), room)
	}
}

// TestNoRoom: of a record that doesn't find room for all of its entries nothing is left, however often it is looked at; with room it is looked at once.
func TestNoRoom(t *testing.T) {
	keys := []string{"k", "l", "m"}
	for n := range len(keys) + 1 {
		for _, queue := range []int{0, 1} { // one that is named already, and one that isn't
			need := entrySize * (1 + n)
			for room := range need + 3 {
				r := fresh(t)
				r.synced(t, message("a", 0, "k", "z"), message("a", queue, keys[:n]...), sized(40))
				r.steps(t, 1)
				r.leave(t, room)
				if room < need {
					r.cache.Fuse(0)
					for range 3 {
						r.stays(t, api.ErrFull)
						r.stands(t, r.all[1].id, 2)
						r.has(t, r.all[0])
					}
					if n, e := r.disp.All(); n != 0 || e != api.ErrFull || r.cache.Down() {
						t.Fatalf("All: %d, %d; down: %t", n, e, r.cache.Down())
					}
					r.cache.Fuse(noFuse)
					r.leave(t, need)
				}
				r.steps(t, 1)
				r.stands(t, r.all[2].id, 1)
				r.has(t, r.all[:2]...)
				if room < need {
					r.stays(t, api.ErrFull)
					r.leave(t, entrySize)
				} else {
					r.leave(t, entrySize+room)
				}
				r.steps(t, 1)
				r.has(t, r.all...)
			}
		}
	}
}

// apart is a dispatcher whose queues and index lie on two disks, with so much room each.
func apart(t *testing.T, x *tape.Tape, ofQueues, ofIndex int) (q, k *disk.Disk, d *disp.Dispatcher) {
	t.Helper()
	q, k = disk.New(ofQueues), disk.New(24+ofIndex)
	queues, e := cq.New(q)
	index, wrong := keyx.New(k)
	ok(t, e, wrong)
	d, e = disp.New(x, queues, index)
	ok(t, e)
	return q, k, d
}

// TestTwoDisks: where the queues and the index lie on two disks, each needs room for its own entries.
func TestTwoDisks(t *testing.T) {
	for n := range 4 {
		r := fresh(t)
		r.synced(t, message("a", 0, []string{"k", "l", "m"}[:n]...))
		for _, ofQueues := range []int{0, 19, 20, 21, 100} {
			for _, ofIndex := range []int{0, 19, 20*n - 1, 20 * n, 20*n + 1} {
				if ofIndex < 0 {
					continue
				}
				q, k, d := apart(t, r.tape, ofQueues, ofIndex)
				fits := ofQueues >= 20 && ofIndex >= 20*n
				did, e := d.Step()
				if did != fits || (e == api.OK) != fits || !fits && e != api.ErrFull {
					t.Errorf("%d keys, room for %d and %d: Step: %t, %d", n, ofQueues, ofIndex, did, e)
				}
				if fits && (q.Size() != 20 || k.Size() != 24+20*n) || !fits && (len(q.List("")) != 0 || k.Size() != 24) {
					t.Errorf("%d keys, room for %d and %d: %d and %d bytes", n, ofQueues, ofIndex, q.Size(), k.Size())
				}
			}
		}
	}
}

// TestWhoseErrorIsFirst: the queues' error comes ahead of the index's, which is asked of keys alone; nothing changes.
func TestWhoseErrorIsFirst(t *testing.T) {
	const fine, full, down = 0, 1, 2
	for _, c := range []struct {
		queues, index int
		keys          []string
		want          api.Errno
	}{
		{down, fine, []string{"k"}, api.ErrDown}, {full, fine, []string{"k"}, api.ErrFull},
		{fine, down, []string{"k"}, api.ErrDown}, {fine, full, []string{"k"}, api.ErrFull},
		{down, full, []string{"k"}, api.ErrDown}, {full, down, []string{"k"}, api.ErrFull},
		{down, down, []string{"k"}, api.ErrDown}, {full, full, []string{"k"}, api.ErrFull},
		{down, fine, nil, api.ErrDown}, {full, down, nil, api.ErrFull},
		{fine, down, nil, api.OK}, {fine, full, nil, api.OK}, {fine, fine, []string{"k"}, api.OK},
	} {
		r := fresh(t)
		r.synced(t, message("a", 0, c.keys...))
		room := []int{100, 0, 100}
		q, k, d := apart(t, r.tape, room[c.queues], room[c.index])
		for i, state := range []int{c.queues, c.index} {
			if state == down {
				x := []*disk.Disk{q, k}[i]
				x.Fuse(0)
				x.Sync()
			}
		}
		if did, e := d.Step(); did != (c.want == api.OK) || e != c.want {
			t.Errorf("%+v: Step: %t, %d", c, did, e)
		}
		if c.want != api.OK && (q.Size() != 0 || k.Size() != 24 || d.Cursor() != 0 || d.Left() != 1) {
			t.Errorf("%+v: %d and %d bytes; Cursor: %d", c, q.Size(), k.Size(), d.Cursor())
		}
	}
}

// TestAllUpToAnError: how many were done ahead of it, and it.
func TestAllUpToAnError(t *testing.T) {
	for n := range 8 {
		r := fresh(t)
		for i := range 8 {
			r.put(t, message("a", i%3, "k"))
		}
		ok(t, r.tape.Sync())
		r.leave(t, 2*entrySize*n+39)
		if done, e := r.disp.All(); done != n || e != api.ErrFull {
			t.Errorf("All: %d, %d, not %d", done, e, n)
		}
		r.has(t, r.all[:n]...)
		r.stands(t, r.all[n].id, 8-n)
		r.leave(t, 1000)
		if done, e := r.disp.All(); done != 8-n || e != api.OK {
			t.Errorf("All: %d, %d, not %d", done, e, 8-n)
		}
		r.has(t, r.all...)
	}
}

// TestTheCacheGoesDown: at whatever call of the disk it does, the cursor stays; made anew, it is as if it hadn't.
func TestTheCacheGoesDown(t *testing.T) {
	const calls = 2 + 2*3 // a queue's segment, and its entry; of each key an entry, and its bucket
	for fuse := range calls + 1 {
		for _, p := range []disk.Plan{{}, {Keep: []bool{true, true, false, true}}, {Keep: slices.Repeat([]bool{true}, 20), Lack: 7}} {
			r := fresh(t)
			r.synced(t, message("b", 1, "k"), message("a", 0, "k", "l", "m"), sized(40))
			r.steps(t, 1)
			r.cache.Fuse(fuse)
			if fuse == calls {
				r.steps(t, 1)
				r.stays(t, api.ErrDown)
				r.stands(t, r.all[2].id, 1)
				continue
			}
			for range 2 {
				r.stays(t, api.ErrDown)
				r.stands(t, r.all[1].id, 2)
				if n, e := r.disp.All(); n != 0 || e != api.ErrDown || !r.cache.Down() {
					t.Fatalf("fuse %d: All: %d, %d", fuse, n, e)
				}
			}
			r.cache.Crash(p)
			r.again(t)
			r.has(t)
			r.steps(t, 3)
			r.has(t, r.all...)
		}
	}
}

// TestTheIndexGoesDownAlone: where its disk is another one and keeps all, the record goes on where it was: nothing is entered twice.
func TestTheIndexGoesDownAlone(t *testing.T) {
	for fuse := range 6 {
		r := fresh(t)
		r.synced(t, message("a", 0, "k", "l", "m"), sized(40))
		q, k, d := apart(t, r.tape, 1000, 1000)
		k.Fuse(fuse)
		for range 2 {
			if did, e := d.Step(); did || e != api.ErrDown || d.Cursor() != 0 || d.Left() != 2 {
				t.Fatalf("fuse %d: Step: %t, %d", fuse, did, e)
			}
		}
		k.Crash(all(k))
		if n, e := d.All(); n != 2 || e != api.OK {
			t.Fatalf("fuse %d: All: %d, %d", fuse, n, e)
		}
		if q.Size() != 40 || k.Size() != 24+60 {
			t.Errorf("fuse %d: %d and %d bytes", fuse, q.Size(), k.Size())
		}
	}
}

// TestTheTapeGoesDown: while its disk is down no record can be looked at; where none is left nothing is asked.
func TestTheTapeGoesDown(t *testing.T) {
	for steps := range 4 {
		r := fresh(t)
		r.synced(t, message("a", 0, "k"), api.Msg{Kind: api.Scheduled, Topic: "a"}, sized(50))
		r.steps(t, steps)
		r.put(t, sized(60))
		r.main.Fuse(0)
		r.main.Sync()
		cursor := r.disp.Cursor()
		want := api.ErrDown
		if steps == 3 {
			want = api.OK
		}
		r.stays(t, want)
		if n, e := r.disp.All(); n != 0 || e != want {
			t.Errorf("All: %d, %d", n, e)
		}
		r.stands(t, cursor, 3-steps)
		r.has(t, r.all[:steps]...)
	}
}

// TestASpoiltTape: a record that somebody else wrote over can't be looked at.
func TestASpoiltTape(t *testing.T) {
	r := fresh(t)
	r.synced(t, sized(40), sized(50), sized(60))
	r.steps(t, 1)
	ok(t, r.main.Write("tape-00000000", 45, "spoilt"))
	r.stays(t, api.ErrNone)
	r.stands(t, 40, 2)
	r.has(t, r.all[0])
}

// TestTheIndexRefuses: the cursor stays, and the record's entries that were made aren't made again.
func TestTheIndexRefuses(t *testing.T) {
	for i, c := range []struct {
		spoil, mend func(d *disk.Disk) api.Errno
		want        api.Errno
		keys        int // for how many of "k", "l", "m" the index has entries then
	}{
		{func(d *disk.Disk) api.Errno { return d.Delete("x-links") }, func(d *disk.Disk) api.Errno { return d.Create("x-links") }, api.ErrNone, 0},
		{func(d *disk.Disk) api.Errno { return d.Rename("x-slots", "z") }, func(d *disk.Disk) api.Errno { return d.Rename("z", "x-slots") }, api.ErrNone, 0},
		{cutAt("a#k"), mended("a#k"), api.ErrRange, 0},
		{cutAt("a#l"), mended("a#l"), api.ErrRange, 1},
		{cutAt("a#m"), mended("a#m"), api.ErrRange, 2},
	} {
		r := fresh(t)
		r.synced(t, message("a", 0, "k", "l", "m"), message("a", 0, "k"))
		ok(t, c.spoil(r.cache))
		for range 3 {
			r.stays(t, c.want)
			r.stands(t, 0, 2)
			if r.queues.Next("a", 0) != 1 || r.index.Len() != c.keys {
				t.Fatalf("row %d: %d entries, %d keys", i, r.queues.Next("a", 0), r.index.Len())
			}
		}
		ok(t, c.mend(r.cache))
		r.steps(t, 2)
		r.stays(t, api.OK)
		r.has(t, r.all...)
	}
}

// cutAt cuts off the bucket of a key's text, and those behind it.
func cutAt(s string) func(d *disk.Disk) api.Errno {
	return func(d *disk.Disk) api.Errno { return d.Cut("x-slots", 3*(hash(s)%8)) }
}

// mended puts back what that cut off: they were empty.
func mended(s string) func(d *disk.Disk) api.Errno {
	n := 3 * (hash(s) % 8)
	return func(d *disk.Disk) api.Errno { return d.Write("x-slots", n, strings.Repeat("\x00", 24-n)) }
}

// TestARefusedRecordThatFindsLittleRoom: just what it hasn't got yet needs room.
func TestARefusedRecordThatFindsLittleRoom(t *testing.T) {
	for room := range 45 {
		r := fresh(t)
		r.synced(t, message("a", 0, "k", "l", "m"))
		ok(t, cutAt("a#l")(r.cache))
		r.stays(t, api.ErrRange)
		ok(t, mended("a#l")(r.cache))
		r.leave(t, room)
		if room < 40 {
			r.stays(t, api.ErrFull)
			if r.queues.Next("a", 0) != 1 || r.index.Len() != 1 {
				t.Fatalf("room for %d: %d entries, %d keys", room, r.queues.Next("a", 0), r.index.Len())
			}
			r.leave(t, 40)
		}
		r.steps(t, 1)
		r.has(t, r.all...)
	}
}

// TestARefusedRecordOnTwoDisks: once it has its queue's entry, that disk is asked no more, be it full, or down.
func TestARefusedRecordOnTwoDisks(t *testing.T) {
	for _, isDown := range []bool{false, true} {
		r := fresh(t)
		r.synced(t, message("a", 0, "k", "l", "m"))
		q, k, d := apart(t, r.tape, entrySize, 3*entrySize)
		ok(t, cutAt("a#l")(k))
		if did, e := d.Step(); did || e != api.ErrRange || q.Room() != 0 {
			t.Fatalf("Step: %t, %d; room for %d", did, e, q.Room())
		}
		if isDown {
			q.Fuse(0)
			q.Sync()
		}
		ok(t, mended("a#l")(k))
		if did, e := d.Step(); !did || e != api.OK || k.Room() != 0 {
			t.Errorf("down %t: Step: %t, %d; room for %d", isDown, did, e, k.Room())
		}
	}
}

// TestARefusedRecordBehindAFiller: it has its entries once, also where the tape's begin goes over the filler meanwhile.
func TestARefusedRecordBehindAFiller(t *testing.T) {
	r := fresh(t)
	r.synced(t, sized(236), sized(236), sized(236), sized(236), sized(70), message("a", 0, "k", "l", "m"))
	if r.all[5].id != segment {
		t.Fatal(r.all)
	}
	r.steps(t, 5)
	ok(t, cutAt("a#l")(r.cache))
	r.stays(t, api.ErrRange)
	r.stands(t, 944+70, 1)
	_, e := r.tape.Drop()
	ok(t, e)
	r.stays(t, api.ErrRange)
	r.stands(t, segment, 1)
	ok(t, mended("a#l")(r.cache))
	r.steps(t, 1)
	r.has(t, r.all...)
}

// TestARefusedRecordThatIsDropped: the next one has all of its entries.
func TestARefusedRecordThatIsDropped(t *testing.T) {
	r := fresh(t)
	r.synced(t, message("a", 0, "k", "l", "m"), sized(236), sized(236), sized(236), sized(236), message("b", 0, "k", "m"))
	if r.all[5].id != segment {
		t.Fatal(r.all)
	}
	ok(t, r.cache.Delete("x-links"))
	r.stays(t, api.ErrNone)
	_, e := r.tape.Drop()
	ok(t, e, r.cache.Create("x-links"))
	r.steps(t, 1)
	r.stays(t, api.OK)
	if p, e := r.queues.At("a", 0, 0); e != api.OK || p != r.all[0].place(t) || r.queues.Next("a", 0) != 1 || r.index.Len() != 2 {
		t.Errorf("%v, %d; %d entries, %d keys", p, e, r.queues.Next("a", 0), r.index.Len())
	}
	if p, e := r.queues.At("b", 0, 0); e != api.OK || p != r.all[5].place(t) {
		t.Errorf("%v, %d", p, e)
	}
	r.finds(t, "b", "k", r.all[5].id)
	r.finds(t, "b", "m", r.all[5].id)
}
