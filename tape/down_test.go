package tape_test

import (
	"slices"
	"testing"

	"reveille/api"
	"reveille/disk"
	"reveille/rec"
	"reveille/tape"
)

// told is a record, and the number that was told of it.
type told struct {
	id int
	m  api.Msg
}

// story is a tape, and what was told of it up to when its disk went down.
type story struct {
	d       *disk.Disk
	x       *tape.Tape // nil, if it went down while the tape was opened
	told    []told     // but what was dropped
	lasting int        // so many of these were synced
	begin   int
}

// deed is a call; of those that may be done not OK, ErrDown.
type deed func(t *testing.T, s *story) api.Errno

func appends(n int) deed {
	return func(t *testing.T, s *story) api.Errno {
		id, e := s.x.Append(sized(n))
		if e == api.OK {
			s.told = append(s.told, told{id, sized(n)})
		}
		return e
	}
}

func syncs(t *testing.T, s *story) api.Errno {
	e := s.x.Sync()
	if e == api.OK {
		s.lasting = len(s.told)
	}
	return e
}

func drops(t *testing.T, s *story) api.Errno {
	begin, e := s.x.Drop()
	if e != api.OK {
		return e
	}
	gone := 0
	for gone < len(s.told) && s.told[gone].id < begin {
		gone++
	}
	s.begin, s.told, s.lasting = begin, s.told[gone:], max(s.lasting-gone, 0)
	return e
}

func opens(t *testing.T, s *story) api.Errno {
	x, e := tape.Open(s.d)
	s.x = x
	if e == api.OK {
		s.lasting = len(s.told)
	}
	return e
}

// crashes is a crash, and how many are left of those that were told.
func crashes(left int, keep ...bool) deed {
	return func(t *testing.T, s *story) api.Errno {
		s.d.Crash(disk.Plan{Keep: keep})
		s.told = s.told[:left]
		return api.OK
	}
}

// torn is a crash that leaves of the last one just the first bytes.
func torn(left, lack int) deed {
	return func(t *testing.T, s *story) api.Errno {
		s.d.Crash(disk.Plan{Keep: slices.Repeat([]bool{true}, s.d.Waits()), Lack: lack})
		s.told = s.told[:left]
		return api.OK
	}
}

// plot is what happens to a tape; while the first deeds are done there is no fuse.
type plot struct{ first, then []deed }

// live does the deeds, till the disk goes down, by a fuse; it tells whether it did.
func live(t *testing.T, p plot, fuse int) (*story, bool) {
	t.Helper()
	s := &story{d: disk.New(1 << 20)}
	for _, do := range p.first {
		ok(t, do(t, s))
	}
	s.d.Fuse(fuse)
	for i, do := range p.then {
		synced := s.x.Synced()
		e := do(t, s)
		if e == api.ErrDown && s.d.Down() {
			s.stillTells(t, synced)
			return s, true
		}
		if e != api.OK {
			t.Fatalf("deed %d: %d", i, e)
		}
	}
	return s, false
}

// stillTells fails, if the tape of a disk that is down tells other things than those it is still to tell.
func (s *story) stillTells(t *testing.T, synced int) {
	t.Helper()
	if s.x == nil {
		return
	}
	end := s.begin
	for _, f := range s.d.List("tape-") { // the filler, too, if it was written
		end += s.d.Len(f)
	}
	tells(t, s.x, s.begin, end, synced, s.ids(len(s.told))...)
	for range 2 {
		if id, e := s.x.Append(sized(40)); id != 0 || e != api.ErrDown {
			t.Fatalf("Append, down: %d, %d", id, e)
		}
	}
	tells(t, s.x, s.begin, end, synced, s.ids(len(s.told))...)
	for _, r := range s.told {
		if m, e := s.x.Read(r.id); e != api.ErrDown || !rec.Same(m, api.Msg{}) {
			t.Fatalf("Read of %d, down: %+v, %d", r.id, m, e)
		}
		if n := s.x.Size(r.id); n != len(put(t, r.m)) {
			t.Fatalf("Size of %d, down: %d", r.id, n)
		}
	}
	if x, e := tape.Open(s.d); x != nil || e != api.ErrDown {
		t.Fatalf("Open, down: %v, %d", x, e)
	}
}

// ids is the numbers of the first so many that were told.
func (s *story) ids(n int) []int {
	var l []int
	for _, r := range s.told[:n] {
		l = append(l, r.id)
	}
	return l
}

// plans is crashes that keep none, some and all of so many writes; the last of them whole and torn.
func plans(waits int) []disk.Plan {
	var keeps [][]bool
	add := func(is func(i int) bool) {
		var keep []bool
		for i := range waits {
			keep = append(keep, is(i))
		}
		keeps = append(keeps, keep)
	}
	if waits <= 4 {
		for set := range 1 << waits {
			add(func(i int) bool { return set>>i&1 == 1 })
		}
	} else {
		for k := range waits + 1 {
			add(func(i int) bool { return i < k })
			add(func(i int) bool { return i != k })
		}
		for k := range waits {
			add(func(i int) bool { return i == k })
		}
		add(func(i int) bool { return i%2 == 0 })
		add(func(i int) bool { return i%2 == 1 })
	}
	var l []disk.Plan
	for _, keep := range keeps {
		l = append(l, disk.Plan{Keep: keep})
		if slices.Contains(keep, true) {
			for _, lack := range []int{1, 2, 3, 20, 39, 1000} {
				l = append(l, disk.Plan{Keep: keep, Lack: lack})
			}
		}
	}
	return l
}

// image is all files that a disk has.
func image(t *testing.T, d *disk.Disk) map[string]string {
	t.Helper()
	files := map[string]string{}
	for _, f := range d.List("") {
		s, e := d.All(f)
		ok(t, e)
		files[f] = s
	}
	return files
}

// wakes is for a disk behind a crash: the tape, opened anew, has what P8.2 says; a fuse lets the disk go down while it is opened, and be crashed, ahead of that. It tells whether the fuse was burnt up.
func (s *story) wakes(t *testing.T, fuse int) bool {
	t.Helper()
	s.d.Fuse(fuse)
	x, e := tape.Open(s.d)
	down := e == api.ErrDown && x == nil && s.d.Down()
	if down {
		s.d.Crash(disk.Plan{Keep: []bool{true, true}})
		x, e = tape.Open(s.d)
	}
	ok(t, e)
	s.d.Fuse(-1)
	l := x.Ids(0)
	if len(l) < s.lasting || len(l) > len(s.told) {
		t.Fatalf("%v are there; of %v the first %d were synced", l, s.ids(len(s.told)), s.lasting)
	}
	s.told = s.told[:len(l)]
	s.stands(t, x)
	end, files := x.End(), image(t, s.d)
	if x.Synced() != end || s.d.Waits() != 0 {
		t.Fatalf("synced up to %d, the end is %d, %d wait", x.Synced(), end, s.d.Waits())
	}
	s.d.Crash(disk.Plan{})
	y := open(t, s.d) // twice is as once
	s.stands(t, y)
	tells(t, y, s.begin, end, end, l...)
	if again := image(t, s.d); len(again) != len(files) {
		t.Fatalf("%d files, not %d", len(again), len(files))
	} else {
		for f, text := range files {
			if again[f] != text {
				t.Fatalf("%q is another one", f)
			}
		}
	}
	s.goesOn(t, y)
	return !down
}

// stands fails, if a tape has other records than those of the story.
func (s *story) stands(t *testing.T, x *tape.Tape) {
	t.Helper()
	if x.Begin() != s.begin || !slices.Equal(x.Ids(0), s.ids(len(s.told))) {
		t.Fatalf("from %d: %v, not from %d: %v", x.Begin(), x.Ids(0), s.begin, s.ids(len(s.told)))
	}
	last := 0
	for _, r := range s.told {
		gives(t, x, r.id, r.m)
		last = r.m.Born
	}
	if x.Last() != last {
		t.Fatalf("Last: %d, not %d", x.Last(), last)
	}
}

// goesOn appends more, so much that a new segment is begun, and syncs; a crash leaves that, but not what isn't synced.
func (s *story) goesOn(t *testing.T, x *tape.Tape) {
	t.Helper()
	s.x = x
	for _, do := range []deed{appends(230), appends(231), appends(232), appends(233), appends(234), syncs} {
		ok(t, do(t, s))
	}
	s.stands(t, x)
	add(t, x, sized(41), sized(42))
	s.d.Crash(disk.Plan{Keep: []bool{false, true}})
	s.stands(t, open(t, s.d))
}

// plots is so many that each call that a tape makes of its disk stands in one.
func plots() map[string]plot {
	four := []deed{opens, appends(236), appends(235), appends(234), appends(233)} // 86 bytes are left
	return map[string]plot{
		"one after the other":          {nil, []deed{opens, appends(40), appends(50), appends(60)}},
		"synced":                       {nil, []deed{opens, appends(40), syncs, appends(50), syncs, appends(60), syncs}},
		"over a filler":                {four, []deed{syncs, appends(100), appends(230), appends(40), syncs, appends(50)}},
		"over a filler of three bytes": {four, []deed{appends(83), appends(50), appends(51), syncs, appends(52)}},
		"without a filler":             {four, []deed{appends(86), appends(50), syncs, appends(51), appends(52)}},
		"leaving one byte":             {four, []deed{syncs, appends(85), appends(36)}},
		"leaving two bytes":            {four, []deed{appends(84), syncs, appends(36)}},
		"over two segments, unsynced":  {four, []deed{appends(200), appends(201), appends(202), appends(203), appends(204), appends(205), appends(206)}},
		"dropped":                      {four, []deed{appends(70), appends(230), syncs, appends(231), drops, appends(40), syncs, appends(41)}},
		"dropped unsynced":             {four, []deed{appends(200), drops, appends(231), appends(232), appends(233), appends(234), drops, appends(40), syncs}},
		"opened in between":            {nil, append(slices.Clone(four), opens, appends(70), opens, appends(40), drops, opens, appends(50))},
		"behind a crash":               {append(slices.Clone(four), syncs, appends(40), crashes(4)), []deed{opens, appends(84), appends(83), syncs, appends(40)}},
		"behind a torn one":            {append(slices.Clone(four), syncs, appends(40), appends(41), torn(5, 7)), []deed{opens, appends(46), appends(83), syncs, appends(40)}},
		"behind a filler alone":        {append(slices.Clone(four), syncs, appends(100), crashes(4, true)), []deed{opens, appends(231), appends(230), syncs}},
		"behind a hole": {append(slices.Clone(four), syncs, appends(40), appends(41), appends(42), crashes(4, false, true, true, true)),
			[]deed{opens, appends(40), syncs, appends(102)}},
		"behind a hole in a second segment": {append(slices.Clone(four), appends(100), syncs, appends(230), appends(231), appends(232), appends(233), appends(234), crashes(6, true, false, true, true, true, true)),
			[]deed{opens, appends(200), appends(201), appends(202), drops}},
	}
}

// TestWhereverTheDiskGoesDown lets it go down at each of its calls, be crashed by each plan, and go down again at each call of the tape's being opened.
func TestWhereverTheDiskGoesDown(t *testing.T) {
	for what, p := range plots() {
		t.Run(what, func(t *testing.T) {
			t.Parallel()
			for fuse := 0; ; fuse++ {
				s, down := live(t, p, fuse)
				for _, plan := range plans(s.d.Waits()) {
					for again := 0; ; again++ {
						s, _ := live(t, p, fuse)
						s.d.Crash(plan)
						if s.wakes(t, again) {
							break
						}
					}
				}
				if !down {
					return
				}
			}
		})
	}
}

// TestWhatIsLeftOfWhatWaits: the first so many of the records, not fewer than the crash left whole.
func TestWhatIsLeftOfWhatWaits(t *testing.T) {
	const y, n = true, false
	p := plot{[]deed{opens, appends(40), syncs}, []deed{appends(50), appends(60), appends(236), appends(235), appends(234), appends(233), appends(70)}} // the filler is the sixth write that waits
	for i, c := range []struct {
		keep []bool
		lack int
		left int // of all eight
	}{
		{nil, 0, 1},
		{[]bool{n, y, y, y, y, y, y, y}, 0, 1},
		{[]bool{y}, 0, 2},
		{[]bool{y}, 1, 1},
		{[]bool{y}, 1000, 1},
		{[]bool{y, y}, 0, 3},
		{[]bool{y, y}, 1, 2},
		{[]bool{y, n, y, y, y, y, y, y}, 0, 2},
		{[]bool{y, y, y, y, y}, 0, 6},
		{[]bool{y, y, y, y, y, y}, 0, 6},
		{[]bool{y, y, y, y, y, y}, 1, 6},
		{[]bool{y, y, y, y, y, n, y, y}, 0, 6}, // without its filler the segment is shorter: none lies behind it
		{[]bool{y, y, y, y, y, y, y}, 0, 7},
		{[]bool{y, y, y, y, y, y, y}, 1, 6},
		{[]bool{y, y, y, y, y, y, n, y}, 0, 6},
		{[]bool{y, y, y, y, y, y, y, y}, 0, 8},
		{[]bool{y, y, y, y, y, y, y, y}, 69, 7},
		{[]bool{y, y, y, y, n, y, y, y}, 0, 5},
		{[]bool{y, y, y, y, y, y, y, y, y, y}, -5, 8},
	} {
		s, _ := live(t, p, -1)
		if s.d.Waits() != 8 || len(s.told) != 8 {
			t.Fatalf("%d wait, %d were told", s.d.Waits(), len(s.told))
		}
		s.d.Crash(disk.Plan{Keep: c.keep, Lack: c.lack})
		x := open(t, s.d)
		if l := x.Ids(0); len(l) != c.left {
			t.Errorf("row %d: %v are left, not %d", i, l, c.left)
		}
		s.told = s.told[:min(c.left, len(s.told))]
		s.stands(t, x)
	}
}

// TestDownAheadOfACall: what needs the disk is refused, what doesn't isn't.
func TestDownAheadOfACall(t *testing.T) {
	d, x, _ := threeSegments(t)
	add(t, x, sized(80))
	end, ids, size := x.End(), x.Ids(0), x.Size(segment)
	d.Fuse(0)
	if d.Sync() != api.ErrDown {
		t.Fatal("it isn't down")
	}
	if id, e := x.Append(sized(40)); id != 0 || e != api.ErrDown {
		t.Errorf("Append: %d, %d", id, e)
	}
	if at, e := x.Drop(); at != 0 || e != api.ErrDown {
		t.Errorf("Drop: %d, %d", at, e)
	}
	if e := x.Sync(); e != api.ErrDown {
		t.Errorf("Sync: %d", e)
	}
	for id, want := range map[int]api.Errno{0: api.ErrDown, segment: api.ErrDown, 1: api.ErrNone, -1: api.ErrNone, end: api.ErrNone} {
		if m, e := x.Read(id); e != want || !rec.Same(m, api.Msg{}) {
			t.Errorf("Read of %d: %+v, %d", id, m, e)
		}
	}
	tells(t, x, 0, end, 0, ids...)
	if id, found := x.Next(1); id != ids[1] || !found || x.Size(segment) != size || x.Last() != 80 || x.Cost(sized(40)) != 40 {
		t.Errorf("Next: %d, %t; Size %d, Last %d, Cost %d", id, found, x.Size(segment), x.Last(), x.Cost(sized(40)))
	}
	d.Crash(disk.Plan{Keep: slices.Repeat([]bool{true}, 40)})
	tells(t, open(t, d), 0, end, end, ids...)
}

// TestAnAppendsCallsOneByOne: the filler, the new segment, the record.
func TestAnAppendsCallsOneByOne(t *testing.T) {
	for fuse, c := range []struct {
		end   int // what the tape tells then
		files []string
		woken int // and where it ends, opened anew behind a crash that keeps all
	}{
		{segment - 20, []string{name(0)}, segment - 20},
		{segment, []string{name(0)}, segment},
		{segment, []string{name(0), name(segment)}, segment},
	} {
		d, x := fresh(t)
		fill(t, x, 20)
		ok(t, x.Sync())
		ids, last := x.Ids(0), x.Last()
		d.Fuse(fuse)
		if id, e := x.Append(sized(40)); id != 0 || e != api.ErrDown {
			t.Fatalf("a fuse of %d: %d, %d", fuse, id, e)
		}
		tells(t, x, 0, c.end, segment-20, ids...)
		if !slices.Equal(d.List(""), c.files) || x.Last() != last {
			t.Fatalf("a fuse of %d: %q, Last %d", fuse, d.List(""), x.Last())
		}
		d.Crash(disk.Plan{Keep: []bool{true, true}})
		x = open(t, d)
		tells(t, x, 0, c.woken, c.woken, ids...)
		if x.Last() != last || len(d.List("")) != 1 {
			t.Fatalf("a fuse of %d: %q, Last %d", fuse, d.List(""), x.Last())
		}
		m := sized(40)
		if cost := map[bool]int{true: 40, false: 60}[c.woken == segment]; x.Cost(m) != cost {
			t.Fatalf("a fuse of %d: Cost %d, not %d", fuse, x.Cost(m), cost)
		}
		add(t, x, m)
		gives(t, x, segment, m)
	}
}

// TestDownWhileItDrops: the segment is still there.
func TestDownWhileItDrops(t *testing.T) {
	d, x, _ := threeSegments(t)
	ok(t, x.Sync())
	end, ids, last := x.End(), x.Ids(0), x.Last()
	d.Fuse(0)
	if at, e := x.Drop(); at != 0 || e != api.ErrDown {
		t.Fatalf("%d, %d", at, e)
	}
	tells(t, x, 0, end, end, ids...)
	if x.Last() != last || x.Size(0) == 0 {
		t.Errorf("Last %d, Size %d", x.Last(), x.Size(0))
	}
	d.Crash(disk.Plan{})
	tells(t, open(t, d), 0, end, end, ids...)
}
