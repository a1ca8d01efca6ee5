package tape_test

import (
	"strings"
	"testing"

	"reveille/api"
	"reveille/disk"
	"reveille/tape"
)

// whole is the bytes of a segment's worth of records, up to so many bytes being left; and where each begins.
func whole(t *testing.T, left int) (string, []int) {
	t.Helper()
	_, x := fresh(t)
	s := ""
	fill(t, x, left)
	for _, id := range x.Ids(0) {
		s += put(t, sized(x.Size(id)))
	}
	return s, x.Ids(0)
}

// behind is numbers, each further on by so much.
func behind(place int, ids ...int) []int {
	var l []int
	for _, id := range ids {
		l = append(l, place+id)
	}
	return l
}

func join(l ...[]int) []int {
	var all []int
	for _, x := range l {
		all = append(all, x...)
	}
	return all
}

func TestOpenOverSegments(t *testing.T) {
	a, b := put(t, sized(40)), put(t, sized(50))
	full, ids := whole(t, 0)
	fill20, ids20 := whole(t, 20)
	filled := fill20 + put(t, filler(20))
	spoilt := full[:ids[2]+20] + "?" + full[ids[2]+21:]
	for what, c := range map[string]struct {
		place int
		there []string
		left  []string
		ids   []int
	}{
		"nothing":                            {0, nil, nil, nil},
		"an empty segment":                   {0, []string{""}, []string{""}, nil},
		"an empty segment further on":        {2048, []string{""}, []string{""}, nil},
		"a record":                           {0, []string{a}, []string{a}, []int{0}},
		"two":                                {0, []string{a + b}, []string{a + b}, []int{0, 40}},
		"a begin above 0":                    {3072, []string{a + b}, []string{a + b}, []int{3072, 3112}},
		"a full segment":                     {0, []string{full}, []string{full}, ids},
		"a full one, and an empty one":       {0, []string{full, ""}, []string{full}, ids},
		"a full one, and a record":           {0, []string{full, b}, []string{full, b}, join(ids, []int{1024})},
		"three":                              {1024, []string{full, full, b + a}, []string{full, full, b + a}, join(behind(1024, ids...), behind(2048, ids...), []int{3072, 3122})},
		"a filler at the end":                {0, []string{filled, a}, []string{filled, a}, join(ids20, []int{1024})},
		"a filler, and nothing behind it":    {0, []string{filled}, []string{filled}, ids20},
		"a filler, and an empty segment":     {0, []string{filled, ""}, []string{filled}, ids20},
		"a filler, and no record behind it":  {0, []string{filled, "x"}, []string{filled}, ids20},
		"a filler that is torn":              {0, []string{fill20 + put(t, filler(20))[:19]}, []string{fill20}, ids20},
		"a filler that is spoilt":            {0, []string{fill20 + put(t, filler(20))[:19] + "x", a}, []string{fill20}, ids20},
		"a filler amidst":                    {0, []string{a + put(t, filler(3)) + b}, []string{a + put(t, filler(3)) + b}, []int{0, 43}},
		"a filler at first":                  {0, []string{put(t, filler(9)) + b}, []string{put(t, filler(9)) + b}, []int{9}},
		"the greatest filler":                {0, []string{put(t, filler(1024)), a}, []string{put(t, filler(1024)), a}, []int{1024}},
		"fillers alone":                      {0, []string{put(t, filler(500)) + put(t, filler(524)), put(t, filler(3))}, []string{put(t, filler(500)) + put(t, filler(524)), put(t, filler(3))}, nil},
		"noughts":                            {0, []string{noughts(100)}, []string{""}, nil},
		"noughts behind":                     {0, []string{a + noughts(100)}, []string{a}, []int{0}},
		"noughts between":                    {0, []string{a + noughts(40) + b}, []string{a}, []int{0}},
		"a segment of noughts":               {0, []string{noughts(1024), full, b}, []string{""}, nil},
		"a torn one":                         {0, []string{a + b[:49]}, []string{a}, []int{0}},
		"one of which the mark is left":      {0, []string{a + b[:1]}, []string{a}, []int{0}},
		"a torn first one":                   {0, []string{a[:39]}, []string{""}, nil},
		"a torn first one further on":        {1024, []string{a[:39]}, []string{""}, nil},
		"a torn first one of the last":       {0, []string{full, a[:39]}, []string{full}, ids},
		"a torn one behind it":               {0, []string{full, a + b[:3]}, []string{full, a}, join(ids, []int{1024})},
		"a spoilt one in a first segment":    {0, []string{spoilt, full, a}, []string{full[:ids[2]]}, ids[:2]},
		"a spoilt one in a second segment":   {0, []string{full, spoilt, full, a}, []string{full, full[:ids[2]]}, join(ids, behind(1024, ids[:2]...))},
		"a first one that is spoilt":         {0, []string{full, "?" + full[1:], full, a}, []string{full}, ids},
		"a record that lies in two segments": {0, []string{fill20 + b[:20], b[20:] + a}, []string{fill20}, ids20},
		"a length beyond the segment":        {0, []string{fill20 + "\xa5\x00\x32" + noughts(17), full}, []string{fill20}, ids20},
	} {
		t.Run(what, func(t *testing.T) {
			end := c.place
			for _, s := range c.left {
				end += len(s)
			}
			if len(c.left) == 0 {
				end = 0
			}
			d := with(t, c.place, c.there...)
			x := open(t, d)
			for range 2 { // as it is opened at first, and once more
				if d.Waits() != 0 {
					t.Errorf("%d wait", d.Waits())
				}
				tells(t, x, min(c.place, end), end, end, c.ids...)
				holds(t, d, c.place, c.left...)
				d.Crash(disk.Plan{})
				holds(t, d, c.place, c.left...)
				x = open(t, d)
			}
			add(t, x, sized(60))
			ok(t, x.Sync())
			d.Crash(disk.Plan{})
			x = open(t, d)
			l := x.Ids(0)
			if len(l) != len(c.ids)+1 {
				t.Fatalf("gone on with: %v", l)
			}
			gives(t, x, l[len(l)-1], sized(60))
		})
	}
}

// TestOneOrTwoBytesLeftBehindARecord: it counts as none, whether these bytes are there or not.
func TestOneOrTwoBytesLeftBehindARecord(t *testing.T) {
	a := put(t, sized(50))
	last := func(left int) (string, []int) { // a message stands last, with so many bytes behind it
		s, ids := whole(t, 100)
		return s + put(t, sized(100-left)), append(ids, 924)
	}
	asFiller := func(left int) (string, []int) {
		s, ids := whole(t, 100)
		return s + put(t, filler(100-left)), ids
	}
	for left := range 6 {
		none := left == 1 || left == 2
		for _, made := range []func(int) (string, []int){last, asFiller} {
			s, ids := made(left)
			for _, more := range []string{"", "\x5a", "\x00", "\x5a\x00\x00\x00\x00"} {
				if len(more) > left {
					continue
				}
				want, wanted := s, ids
				if none {
					want, wanted = s[:924], without(ids, 924)
				}
				d := with(t, 0, s+more)
				tells(t, open(t, d), 0, len(want), len(want), wanted...)
				holds(t, d, 0, want)
			}
			if left > 0 { // with a segment behind it, which goes, too
				want, wanted := s, ids
				if none {
					want, wanted = s[:924], without(ids, 924)
				}
				d := with(t, 0, s+noughts(left), a)
				tells(t, open(t, d), 0, len(want), len(want), wanted...)
				holds(t, d, 0, want)
			}
		}
	}
	s, ids := last(3)
	d := with(t, 0, s+"\x5a\x00\x03", a)
	tells(t, open(t, d), 0, 1074, 1074, append(ids, 1024)...)
}

// TestOneOrTwoBytesOfAShorterSegment: by the segment's size, not by what there is of it.
func TestOneOrTwoBytesOfAShorterSegment(t *testing.T) {
	a, b := put(t, sized(40)), put(t, sized(50))
	for _, more := range []string{"x", "\x00\x00", "\x5a\x00", b[:1], b[:2]} {
		d := with(t, 0, a+b+more)
		tells(t, open(t, d), 0, 90, 90, 0, 40)
		holds(t, d, 0, a+b)
	}
}

func without(ids []int, id int) []int {
	var l []int
	for _, x := range ids {
		if x != id {
			l = append(l, x)
		}
	}
	return l
}

// TestWhatTheRowPassesBy: files that are none of its segments, and those that it lets go.
func TestWhatTheRowPassesBy(t *testing.T) {
	full, ids := whole(t, 0)
	a := put(t, sized(40))
	d := disk.New(1 << 20)
	file := func(name, s string) { ok(t, d.Create(name), d.Write(name, 0, s)) }
	file("tape-", "x")
	file("tape-1024", "x")
	file("tape-000001024", full)
	file("tape", "x")
	file("base", "x")
	file("q-a.0-00000000", a)
	rest := d.List("")
	file("tape-00001000", full)       // no multiple
	file("tape-00000000", full+"x")   // too long
	file("tape-00001024", full)       // here it begins
	file("tape-00002048", a+a)        // and here it ends
	file("tape-00003072", full)       // behind one that is shorter
	file("tape-00005120", full)       // behind a gap
	file("tape-99999744", noughts(9)) // of the greatest place
	x := open(t, d)
	tells(t, x, 1024, 2128, 2128, join(behind(1024, ids...), []int{2048, 2088})...)
	ok(t, d.Delete(name(1024), name(2048)))
	for _, f := range rest {
		if d.Len(f) == 0 {
			t.Errorf("%q is gone", f)
		}
	}
	if l := d.List(""); len(l) != len(rest) {
		t.Errorf("%q, not %q", l, rest)
	}
}

// TestAnotherHead: the tape's segments have just this one, and this size.
func TestAnotherHead(t *testing.T) {
	d := disk.New(1 << 20)
	x := open(t, d)
	fill(t, x, 0)
	fill(t, x, 0)
	add(t, x, sized(40))
	if l := strings.Join(d.List(""), " "); l != "tape-00000000 tape-00001024 tape-00002048" {
		t.Error(l)
	}
	if d.Len(name(0)) != 1024 || d.Len(name(1024)) != 1024 || d.Len(name(2048)) != 40 {
		t.Error(d.Len(name(0)), d.Len(name(1024)), d.Len(name(2048)))
	}
}

// TestOpensCalls: of files that aren't the row's, one; of segments that are cut, one; of the last one's end, one; and the sync.
func TestOpensCalls(t *testing.T) {
	full, _ := whole(t, 0)
	a := put(t, sized(40))
	for i, c := range []struct {
		calls int
		there []string
	}{
		{0, nil},
		{1, []string{a}},
		{1, []string{full, a}},
		{2, []string{full, ""}},
		{2, []string{a + "x"}},
		{2, []string{full, "x"}},
		{2, []string{full, a + "x"}},
		{3, []string{full, a + "x" + full[41:], full, a}},
		{2, []string{full, a, full, a}},
		{3, []string{full, a + "x", full, a}},
	} {
		for n := range c.calls {
			d := with(t, 0, c.there...)
			d.Fuse(n)
			if x, e := tape.Open(d); x != nil || e != api.ErrDown {
				t.Fatalf("row %d, a fuse of %d: %v, %d", i, n, x, e)
			}
			if x, e := tape.Open(d); x != nil || e != api.ErrDown {
				t.Fatalf("row %d, a fuse of %d, down: %v, %d", i, n, x, e)
			}
		}
		d := with(t, 0, c.there...)
		d.Fuse(c.calls)
		open(t, d)
		if d.Sync() != api.ErrDown {
			t.Errorf("row %d: fewer calls than %d", i, c.calls)
		}
	}
}

// TestSyncsCalls: none, when nothing was written.
func TestSyncsCalls(t *testing.T) {
	d, x, _ := threeSegments(t)
	for _, calls := range []int{1, 0, 0} {
		d.Fuse(calls)
		ok(t, x.Sync())
		if x.Synced() != x.End() || d.Waits() != 0 {
			t.Fatalf("synced up to %d, %d wait", x.Synced(), d.Waits())
		}
	}
	d.Fuse(-1)
	end := x.End()
	add(t, x, sized(40))
	if x.Synced() != end || d.Waits() != 1 {
		t.Fatalf("synced up to %d, %d wait", x.Synced(), d.Waits())
	}
	d.Fuse(0)
	if e := x.Sync(); e != api.ErrDown {
		t.Fatalf("Sync: %d", e)
	}
	if x.Synced() != end || x.End() != end+40 {
		t.Fatalf("synced up to %d of %d", x.Synced(), x.End())
	}
}
