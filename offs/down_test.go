package offs_test

import (
	"slices"
	"strings"
	"testing"

	"reveille/api"
	"reveille/disk"
	"reveille/offs"
	"reveille/topic"
)

// The tests of this file hold promise P14.1: what was flushed lasts, wherever the disk goes down.

// plans is what a crash may leave of so many writes that wait.
func plans(waits int) []disk.Plan {
	var l []disk.Plan
	for kept := range 1 << waits {
		p := disk.Plan{}
		for i := range waits {
			p.Keep = append(p.Keep, kept>>i&1 == 1)
		}
		for _, p.Lack = range []int{0, 1, 4, 5, 19, 999} {
			l = append(l, p)
		}
	}
	return l
}

// flushed is offsets that were flushed, and their disk; of none nothing ever was.
func flushed(t *testing.T, l ...offs.Offset) (*disk.Disk, *offs.Offsets) {
	t.Helper()
	d, o := empty(t)
	if len(l) > 0 {
		set(t, o, l...)
		flush(t, o)
	}
	return d, o
}

// steps is offsets, and what they become: one more, another place of one, all of them, many.
func steps() [][2][]offs.Offset {
	l := rising()
	other := slices.Clone(l)
	other[3].At = 77
	back := slices.Clone(l)
	back[7].At = 0
	return [][2][]offs.Offset{{nil, l[:1]}, {nil, l}, {l[:1], l[:2]}, {l[1:], l}, {l, other}, {l, back}, {l, l}, {many(63), many(64)}}
}

// TestItGoesDownInFlush: ahead of each of its calls, and behind the last one. What was told OK is there then; else what was flushed ahead of it.
func TestItGoesDownInFlush(t *testing.T) {
	for i, s := range steps() {
		for fuse := range 6 {
			for _, p := range plans(2) {
				d, o := flushed(t, s[0]...)
				other(t, d, 20) // which waits, too, ahead of what is flushed
				set(t, o, s[1]...)
				d.Fuse(fuse)
				e := o.Flush()
				if e != api.OK && e != api.ErrDown || (e == api.OK) != (fuse >= 4) {
					t.Fatalf("%d, fuse %d: Flush: %d", i, fuse, e)
				}
				tells(t, o, s[1]...)
				if d.Down() {
					if x, e := offs.Open(d); x != nil || e != api.ErrDown {
						t.Fatalf("Open, down: %v, %d", x, e)
					}
				}
				d.Crash(p)
				want := s[0]
				if e == api.OK {
					want = s[1]
				}
				tells(t, open(t, d), want...)
				tells(t, open(t, d), want...) // opened twice it is as once
				goesOn(t, d, o, s[1])
			}
		}
	}
}

// goesOn fails, if behind a crash offsets can't be flushed, those that were there ahead of it, or those that were opened anew.
func goesOn(t *testing.T, d *disk.Disk, o *offs.Offsets, l []offs.Offset) {
	t.Helper()
	if e := d.Delete("other"); e != api.OK {
		t.Fatal(e)
	}
	x := open(t, d)
	flush(t, o)
	lasts(t, d, l...)
	set(t, x, l...)
	set(t, x, of(l[0].Group, l[0].Topic, l[0].Queue, 1234))
	flush(t, x)
	d.Crash(disk.Plan{})
	lasts(t, d, append([]offs.Offset{of(l[0].Group, l[0].Topic, l[0].Queue, 1234)}, l[1:]...)...)
}

// TestItGoesDownAgainAndAgain: what is left of one flush is in no other's way.
func TestItGoesDownAgainAndAgain(t *testing.T) {
	l := rising()
	for first := range 4 {
		for second := range 6 {
			for _, p := range plans(1) {
				d, o := flushed(t, l...)
				next := slices.Clone(l)
				next[0].At = 99
				set(t, o, next[0])
				d.Fuse(first)
				if e := o.Flush(); e != api.ErrDown {
					t.Fatalf("Flush: %d", e)
				}
				d.Crash(p)
				d.Fuse(second)
				e := o.Flush()
				d.Crash(p)
				if e == api.OK {
					tells(t, open(t, d), next...)
				} else {
					tells(t, open(t, d), l...)
				}
				flush(t, o)
				lasts(t, d, next...)
			}
		}
	}
}

// TestWhatWasFlushedLasts: whatever a crash leaves of what waits, and though more was set since.
func TestWhatWasFlushedLasts(t *testing.T) {
	l := rising()
	for n := 1; n < len(l); n++ {
		for _, p := range plans(1) {
			d, o := flushed(t, l[:n]...)
			if d.Waits() != 0 {
				t.Fatalf("%d writes wait", d.Waits())
			}
			set(t, o, l[n:]...)
			set(t, o, of(l[0].Group, l[0].Topic, l[0].Queue, 4321))
			tells(t, open(t, d), l[:n]...) // nor is it there without a crash
			d.Crash(p)
			lasts(t, d, l[:n]...)
		}
	}
}

// TestAFlushOfNone: it is one as well; what is saved then is that there are none.
func TestAFlushOfNone(t *testing.T) {
	d, o := empty(t)
	flush(t, o)
	d.Crash(disk.Plan{})
	lasts(t, d)
}

// TestAFlushOfTheSame: it is saved anew, so that its errors are told.
func TestAFlushOfTheSame(t *testing.T) {
	d, o := flushed(t, rising()...)
	for range 3 {
		flush(t, o)
		lasts(t, d, rising()...)
	}
	if e := d.Delete("groups"); e != api.OK {
		t.Fatal(e)
	}
	flush(t, o)
	lasts(t, d, rising()...)
	d.Fuse(3)
	for range 2 {
		if e := o.Flush(); e != api.ErrDown {
			t.Errorf("Flush: %d", e)
		}
	}
}

// other makes a file of so many bytes, that wait.
func other(t *testing.T, d *disk.Disk, n int) {
	t.Helper()
	if d.Create("other") != api.OK || d.Write("other", 0, strings.Repeat("x", n)) != api.OK {
		t.Fatal("no other file")
	}
}

// TestNoRoom: the old ones and the new ones must go in, side by side. Where they don't, the old ones stay saved, and the new ones set; with room they are flushed.
func TestNoRoom(t *testing.T) {
	l := rising()
	for n, x := range l {
		for _, lack := range []int{0, 1, 4, 18} {
			d, o := flushed(t, l[:n]...)
			other(t, d, d.Room()+lack-len("sums")-len(bytesOf(l[:n+1]...)))
			set(t, o, x)
			if lack > 0 {
				for range 2 {
					if e := o.Flush(); e != api.ErrFull {
						t.Fatalf("%d offsets, lack %d: Flush: %d", n, lack, e)
					}
					if f := d.List("groups."); len(f) > 0 {
						t.Fatalf("%q is left", f)
					}
					tells(t, o, l[:n+1]...)
					tells(t, open(t, d), l[:n]...)
				}
				if e := d.Delete("other"); e != api.OK {
					t.Fatal(e)
				}
			}
			flush(t, o)
			tells(t, open(t, d), l[:n+1]...)
		}
	}
}

// TestOtherFilesAreLeftAlone: also those whose names begin so.
func TestOtherFilesAreLeftAlone(t *testing.T) {
	d, o := empty(t)
	for _, f := range []string{"group", "groups-", "groups.new.new", "topics", "topics.new"} {
		if e := topic.Save(d, f, f); e != api.OK {
			t.Fatal(e)
		}
	}
	files := d.List("")
	set(t, o, rising()...)
	flush(t, o)
	for _, f := range files {
		if s, _, e := topic.Load(d, f); s != f || e != api.OK {
			t.Errorf("%q: %q, %d", f, s, e)
		}
	}
	if l := d.List(""); len(l) != len(files)+1 {
		t.Errorf("there are %q", l)
	}
}
