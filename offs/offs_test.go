package offs_test

import (
	"math"
	"slices"
	"strconv"
	"strings"
	"testing"

	"reveille/api"
	"reveille/disk"
	"reveille/offs"
	"reveille/topic"
)

// The tests of this file hold promise P14.1: all are what is said.

const top = 1 << 40 // the greatest offset

func of(group, topic string, queue, at int) offs.Offset {
	return offs.Offset{Group: group, Topic: topic, Queue: queue, At: at}
}

func open(t *testing.T, d *disk.Disk) *offs.Offsets {
	t.Helper()
	o, e := offs.Open(d)
	if e != api.OK || o == nil {
		t.Fatalf("Open: %v, %d", o, e)
	}
	return o
}

// empty is no offsets, and their disk.
func empty(t *testing.T) (*disk.Disk, *offs.Offsets) {
	t.Helper()
	d := disk.New(10000)
	return d, open(t, d)
}

// saved is a disk on which a text is saved as the offsets.
func saved(t *testing.T, text string) *disk.Disk {
	t.Helper()
	d := disk.New(100000)
	if e := topic.Save(d, "groups", text); e != api.OK {
		t.Fatal(e)
	}
	return d
}

func set(t *testing.T, o *offs.Offsets, l ...offs.Offset) {
	t.Helper()
	for _, x := range l {
		if e := o.Set(x); e != api.OK {
			t.Fatalf("Set of %v: %d", x, e)
		}
	}
}

func flush(t *testing.T, o *offs.Offsets) {
	t.Helper()
	if e := o.Flush(); e != api.OK {
		t.Fatalf("Flush: %d", e)
	}
}

// bytesOf is offsets as they are saved, as chapters 1 and 14 say it.
func bytesOf(l ...offs.Offset) string {
	b := []byte{byte(len(l))}
	for _, x := range l {
		for _, s := range []string{x.Group, x.Topic} {
			b = append(b, byte(len(s)>>8), byte(len(s)))
			b = append(b, s...)
		}
		b = append(b, byte(x.Queue))
		for i := 5; i >= 0; i-- {
			b = append(b, byte(x.At>>(8*i)))
		}
	}
	return string(b)
}

// tells fails, if other offsets are told than these, which rise.
func tells(t *testing.T, o *offs.Offsets, l ...offs.Offset) {
	t.Helper()
	if all := o.All(); !slices.Equal(all, l) {
		t.Fatalf("All: %v, not %v", all, l)
	}
	want := map[offs.Offset]int{of("none", "none", 0, 0): 0, of("", "", 0, 0): 0, of("g", "", 0, 0): 0, of("", "a", 0, 0): 0}
	for _, x := range l {
		for _, q := range []int{math.MinInt, -1, 0, 1, 2, 3, 256, 1 << 32, math.MaxInt} {
			want[of(x.Group, x.Topic, q, 0)] = 0
		}
		for _, y := range []offs.Offset{of(x.Topic, x.Group, x.Queue, 0), of(x.Group+"x", x.Topic, x.Queue, 0), of(x.Group, x.Topic+"x", x.Queue, 0), of(x.Group[1:], x.Topic, x.Queue, 0), of(x.Group, strings.ToUpper(x.Topic), x.Queue, 0), of(x.Group+x.Topic[:1], x.Topic[1:], x.Queue, 0)} {
			want[y] = 0
		}
	}
	for _, x := range l { // those above may be other ones
		want[of(x.Group, x.Topic, x.Queue, 0)] = x.At
	}
	for x, at := range want {
		if n := o.Get(x.Group, x.Topic, x.Queue); n != at {
			t.Fatalf("Get of %q, %q, %d: %d, not %d", x.Group, x.Topic, x.Queue, n, at)
		}
	}
}

// lasts fails, if on the disk there are other offsets than these, which rise; there is no other file.
func lasts(t *testing.T, d *disk.Disk, l ...offs.Offset) {
	t.Helper()
	if f := d.List(""); !slices.Equal(f, []string{"groups"}) {
		t.Fatalf("there are %q", f)
	}
	if s, there, e := topic.Load(d, "groups"); s != bytesOf(l...) || !there || e != api.OK {
		t.Fatalf("it is saved %q, %t, %d, not %q", s, there, e, bytesOf(l...))
	}
	tells(t, open(t, d), l...)
}

// rising is offsets in order, which is not that of their names written one behind the other: a group ends where its topic begins.
func rising() []offs.Offset {
	long := strings.Repeat("z", 16)
	return []offs.Offset{
		of("-", "z", 2, 1), of("0", "a", 0, 255), of("a", "%dead%a", 0, 256), of("a", "%retry%12345678", 1, 65535), of("a", "%retry%a", 2, 0), of("a", "-", 0, 65536), of("a", "0", 1, 1<<24),
		of("a", "a", 0, top), of("a", "a", 1, top-1), of("a", "a", 2, 7), of("a", "a-", 0, 8), of("a", "aa", 1, 9), of("a", long, 0, 1<<32), of("a-", "a", 0, 1<<32-1), of("a0", "-", 2, 3),
		of("aa", "%dead%-", 1, 4), of("aa", "a", 0, 4), of("b", "0", 0, 258), of("zzzzzzzz", long, 2, 1<<39),
	}
}

// many is so many offsets, rising.
func many(n int) []offs.Offset {
	var l []offs.Offset
	for i := range n {
		l = append(l, of("g"+strconv.Itoa(10+i/6), [...]string{"%dead%g", "a"}[i%6/3], i%3, (i*i*12345678911)%(top+1)))
	}
	return l
}

// wrong is offsets that may not be, each with the error that is told.
func wrong() map[offs.Offset]api.Errno {
	m := map[offs.Offset]api.Errno{}
	for _, group := range []string{"", " ", "A", "a b", "a_b", "123456789", "é", "a\x00", "%retry%g", "%dead%g", strings.Repeat("a", 16), strings.Repeat("a", 1<<16)} {
		m[of(group, "a", 0, 5)] = api.ErrName
		m[of(group, "a", 3, 5)] = api.ErrName
		m[of(group, "a", 0, -1)] = api.ErrName
		m[of(group, "A", -1, top+1)] = api.ErrName
	}
	for _, topic := range []string{"", " ", "A", "a b", "a.b", "é", "a\n", "%retry%", "%dead%", "%retry%123456789", "%dead%G", "%other%g", strings.Repeat("a", 17), strings.Repeat("a", 1<<16)} {
		m[of("g", topic, 0, 5)] = api.ErrName
		m[of("g", topic, 3, 5)] = api.ErrName
		m[of("g", topic, 0, top+1)] = api.ErrName
	}
	for _, queue := range []int{math.MinInt, -256, -1, 3, 4, 255, 256, 257, 1 << 32, math.MaxInt} {
		for _, at := range []int{0, 5, top, -1, top + 1} {
			m[of("g", "a", queue, at)] = api.ErrQueue
			m[of("g", "%retry%g", queue, at)] = api.ErrQueue
		}
	}
	for _, at := range []int{math.MinInt, -top, -1, top + 1, top + 5, 1<<48 - 1, 1 << 48, 1<<48 + 5, math.MaxInt} {
		m[of("g", "a", 0, at)] = api.ErrRange
		m[of("g", "%dead%x", 2, at)] = api.ErrRange
	}
	return m
}

func TestExample(t *testing.T) {
	for _, flushed := range []bool{false, true} {
		d, o := empty(t)
		set(t, o, of("g", "a", 0, 5))
		want := 0
		if flushed {
			flush(t, o)
			want = 5
		}
		d.Crash(disk.Plan{})
		if n := open(t, d).Get("g", "a", 0); n != want {
			t.Errorf("flushed %t: %d", flushed, n)
		}
	}
}

// TestAllRise: in whatever order they were set.
func TestAllRise(t *testing.T) {
	l := rising()
	for from := range l {
		for _, step := range []int{1, 2, 3, 5, 18} { // there are 19: each step goes by all of them
			d, o := empty(t)
			for i := range l {
				set(t, o, l[(from+i*step)%len(l)])
			}
			tells(t, o, l...)
			flush(t, o)
			lasts(t, d, l...)
		}
	}
}

func TestOneBehindTheOther(t *testing.T) {
	d, o := empty(t)
	tells(t, o)
	l := rising()
	for i := len(l) - 1; i >= 0; i-- {
		set(t, o, l[i])
		tells(t, o, l[i:]...)
		flush(t, o)
		lasts(t, d, l[i:]...)
	}
}

func TestTheBytesOfOffsets(t *testing.T) {
	d, o := empty(t)
	if l := d.List(""); len(l) > 0 {
		t.Errorf("ahead of the first flush there are %q", l)
	}
	for _, c := range []struct {
		x    offs.Offset
		want string
	}{
		{want: "\x00"},
		{of("g", "a", 0, 5), "\x01\x00\x01g\x00\x01a\x00\x00\x00\x00\x00\x00\x05"},
		{of("g", "%retry%g", 2, 1<<40), "\x02\x00\x01g\x00\x08%retry%g\x02\x01\x00\x00\x00\x00\x00\x00\x01g\x00\x01a\x00\x00\x00\x00\x00\x00\x05"},
		{of("g", "a", 0, 258), "\x02\x00\x01g\x00\x08%retry%g\x02\x01\x00\x00\x00\x00\x00\x00\x01g\x00\x01a\x00\x00\x00\x00\x00\x01\x02"},
		{of("group-12", "a", 1, 0), "\x03\x00\x01g\x00\x08%retry%g\x02\x01\x00\x00\x00\x00\x00\x00\x01g\x00\x01a\x00\x00\x00\x00\x00\x01\x02\x00\x08group-12\x00\x01a\x01\x00\x00\x00\x00\x00\x00"},
	} {
		if c.x.Group != "" {
			set(t, o, c.x)
		}
		flush(t, o)
		if s, there, e := topic.Load(d, "groups"); s != c.want || !there || e != api.OK {
			t.Errorf("of %v: %q, %t, %d, not %q", c.x, s, there, e, c.want)
		}
	}
}

// TestAnOffsetThatIsSetAgain: it goes on, or back, and is one as it was.
func TestAnOffsetThatIsSetAgain(t *testing.T) {
	d, o := empty(t)
	l := rising()
	set(t, o, l...)
	for i := range l {
		for _, at := range []int{top, 0, 7, 7, 6, 1} {
			l[i].At = at
			set(t, o, l[i])
			tells(t, o, l...)
		}
		flush(t, o)
		lasts(t, d, l...)
	}
}

// TestAnOffsetOfNought: it is one, though Get tells it of what isn't set, too.
func TestAnOffsetOfNought(t *testing.T) {
	d, o := empty(t)
	set(t, o, of("g", "a", 1, 0))
	tells(t, o, of("g", "a", 1, 0))
	flush(t, o)
	lasts(t, d, of("g", "a", 1, 0))
}

func TestOffsetsThatMayNotBe(t *testing.T) {
	for _, n := range []int{0, 5, 64} { // of those that are there none is asked for
		d, o := empty(t)
		l := many(n)
		set(t, o, l...)
		flush(t, o)
		d.Fuse(0)
		for x, want := range wrong() {
			if e := o.Set(x); e != want {
				t.Errorf("Set of %.20q, %.20q, %d, %d: %d, not %d", x.Group, x.Topic, x.Queue, x.At, e, want)
			}
			if n := o.Get(x.Group, x.Topic, x.Queue); n != 0 {
				t.Errorf("Get of %.20q, %.20q, %d: %d", x.Group, x.Topic, x.Queue, n)
			}
		}
		tells(t, o, l...)
		lasts(t, d, l...)
	}
}

// TestTheEdgesOfWhatMayBe: each of them is set, and lasts.
func TestTheEdgesOfWhatMayBe(t *testing.T) {
	for _, group := range []string{"-", "a", "0", "z9-z9-z9"} {
		for _, topic := range []string{"a", "-", strings.Repeat("9", 16), "%retry%a", "%dead%z9-z9-z9"} {
			for queue := range 3 {
				for _, at := range []int{0, 1, 255, 256, 1 << 16, 1<<32 - 1, 1 << 32, top - 1, top} {
					d, o := empty(t)
					x := of(group, topic, queue, at)
					set(t, o, x)
					flush(t, o)
					lasts(t, d, x)
				}
			}
		}
	}
}

// TestMoreThan64: a 65th is refused, wherever it would stand, and also one of 0; those that there are may still be set.
func TestMoreThan64(t *testing.T) {
	d, o := empty(t)
	l := many(64)
	set(t, o, l...)
	flush(t, o)
	for range 2 {
		d.Fuse(0)
		for _, x := range []offs.Offset{of("a", "a", 0, 5), of("g10", "aa", 0, 5), of("g20", "b", 1, top), of("zzz", "zzz", 2, 0)} {
			if e := o.Set(x); e != api.ErrLong {
				t.Errorf("Set of %v: %d", x, e)
			}
		}
		tells(t, o, l...)
		for i := range l {
			l[i].At = (l[i].At + 3) % (top + 1)
			set(t, o, l[i])
		}
		tells(t, o, l...)
		d.Fuse(-1)
		flush(t, o)
		lasts(t, d, l...)
		o = open(t, d)
	}
	_, o = empty(t)
	set(t, o, many(63)...)
	set(t, o, of("zzz", "zzz", 2, 0))
	tells(t, o, append(many(63), of("zzz", "zzz", 2, 0))...)
}

// TestOnlyFlushAsksTheDisk: nothing else is a call of it, also while it is down.
func TestOnlyFlushAsksTheDisk(t *testing.T) {
	d, o := empty(t)
	l := rising()
	d.Fuse(0)
	for range 2 {
		for i := range l {
			l[i].At /= 2
		}
		set(t, o, l...)
		tells(t, o, l...)
		if n := o.Behind(of("none", "a", 0, 4)); n != 4 {
			t.Errorf("Behind: %d", n)
		}
		if d.Sync() != api.ErrDown {
			t.Fatal("there is no fuse any more")
		}
		if e := o.Flush(); e != api.ErrDown {
			t.Errorf("Flush: %d", e)
		}
		tells(t, o, l...)
	}
	if len(d.List("")) > 0 {
		t.Error("something was saved")
	}
}

func TestOpenChangesNothing(t *testing.T) {
	d := saved(t, bytesOf(rising()...))
	if d.Create("groups.new") != api.OK || d.Create("other") != api.OK || d.Write("other", 0, "waits") != api.OK {
		t.Fatal("no other files")
	}
	d.Fuse(0)
	for range 2 {
		tells(t, open(t, d), rising()...)
	}
	if l := d.List(""); d.Down() || d.Waits() != 1 || !slices.Equal(l, []string{"groups", "groups.new", "other"}) {
		t.Errorf("down %t, %d wait, %q", d.Down(), d.Waits(), l)
	}
	d = disk.New(100)
	if e := topic.Save(d, "groups.new", bytesOf(of("g", "a", 0, 5))); e != api.OK {
		t.Fatal(e)
	}
	tells(t, open(t, d)) // of a file of another name there are none
}

// TestOffsetsThatAre: also those that were saved by no Flush.
func TestOffsetsThatAre(t *testing.T) {
	for n := range 65 {
		d := saved(t, bytesOf(many(n)...))
		tells(t, open(t, d), many(n)...)
	}
	for i := range rising() {
		d := saved(t, bytesOf(rising()[i:]...))
		o := open(t, d)
		tells(t, o, rising()[i:]...)
		set(t, o, rising()...)
		tells(t, o, rising()...)
	}
}

func TestWhatIsNoOffsets(t *testing.T) {
	right := bytesOf(rising()...)
	l := []string{
		"", "\x01", "\x40", "\xff", "\x00\x00", right + "\x00", right + right, "\x00" + right, "\x12" + right[1:], "\x14" + right[1:], bytesOf(many(65)...), bytesOf(many(255)...), "\x40" + bytesOf(many(65)...)[1:], "\x41" + bytesOf(many(64)...)[1:],
		bytesOf(of("g", "a", 0, 5), of("g", "a", 0, 5)), bytesOf(of("g", "a", 0, 5), of("g", "a", 0, 6)), bytesOf(of("g", "a", 0, 5), of("g", "b", 0, 5), of("g", "a", 0, 7)),
		bytesOf(of("g", "a", 1, 5), of("g", "a", 0, 5)), bytesOf(of("g", "b", 0, 5), of("g", "a", 0, 5)), bytesOf(of("h", "a", 0, 5), of("g", "a", 0, 5)), bytesOf(of("g-", "a", 0, 5), of("g", "z", 0, 5)), bytesOf(of("g", "a", 0, 5), of("g", "%dead%z", 0, 5)),
		"\x01\x00\x02g\x00\x01a\x00\x00\x00\x00\x00\x00\x05", "\x01\xff\xffg\x00\x01a\x00\x00\x00\x00\x00\x00\x05", "\x01\x01g\x01a\x00\x00\x00\x00\x00\x00\x05", "\x01\x00\x01g\x00\x01a\x00\x00\x00\x00\x00\x00\x00\x05", "\x01\x00\x01g\x00\x01a\x00\x00\x00\x00\x00\x05",
	}
	for x := range wrong() {
		if min(x.Queue, x.At) >= 0 && max(len(x.Group), len(x.Topic), x.Queue) < 256 && x.At < 1<<48 { // what has bytes
			l = append(l, bytesOf(x), bytesOf(x, of("zz", "zz", 0, 0)), bytesOf(of("-", "-", 0, 0), x))
		}
	}
	for n := range len(right) {
		l = append(l, right[:n])
	}
	for _, s := range l {
		d := saved(t, s)
		d.Fuse(0)
		if o, e := offs.Open(d); o != nil || e != api.ErrForm {
			t.Errorf("Open of %.40q: %v, %d", s, o, e)
		}
		if d.Down() {
			t.Errorf("of %.40q: it is down", s)
		}
		if x, _, e := topic.Load(d, "groups"); x != s || e != api.OK {
			t.Errorf("of %.40q: %q is left, %d", s, x, e)
		}
	}
}

// TestOffsetsThatAreNotSealed: the bytes of a file that Flush made, each of them another one; and some that it never makes.
func TestOffsetsThatAreNotSealed(t *testing.T) {
	whole, e := saved(t, bytesOf(rising()...)).All("groups")
	if e != api.OK {
		t.Fatal(e)
	}
	l := []string{"", "\x00", "\x00\x00\x00", bytesOf(rising()...), whole[:len(whole)-1], whole + "\x00", whole[4:] + whole[:4]}
	for i := range len(whole) {
		b := []byte(whole)
		b[i] ^= byte(1 + i%255)
		l = append(l, string(b))
	}
	for _, s := range l {
		d := disk.New(1000)
		if d.Create("groups") != api.OK || d.Write("groups", 0, s) != api.OK {
			t.Fatal("no file")
		}
		if o, e := offs.Open(d); o != nil || e != api.ErrForm {
			t.Errorf("Open of %q: %v, %d", s, o, e)
		}
	}
}

func TestBehind(t *testing.T) {
	_, o := empty(t)
	set(t, o, of("g", "a", 0, 5), of("g", "a", 1, top), of("g", "%retry%g", 0, 0), of("h", "a", 0, 7))
	long := func(n int, x offs.Offset, l ...offs.Offset) []offs.Offset {
		return append(slices.Repeat([]offs.Offset{x}, n), l...)
	}
	for _, c := range []struct {
		ends []offs.Offset
		want int
	}{
		{nil, 0}, {[]offs.Offset{}, 0},
		{[]offs.Offset{of("g", "a", 0, 4)}, 0}, {[]offs.Offset{of("g", "a", 0, 5)}, 0}, {[]offs.Offset{of("g", "a", 0, 6)}, 1}, {[]offs.Offset{of("g", "a", 0, 0)}, 0},
		{[]offs.Offset{of("g", "a", 0, top)}, top - 5}, {[]offs.Offset{of("g", "a", 0, top+1)}, top - 5}, {[]offs.Offset{of("g", "a", 0, math.MaxInt)}, top - 5},
		{[]offs.Offset{of("g", "a", 1, top)}, 0}, {[]offs.Offset{of("g", "a", 1, math.MaxInt)}, 0}, {[]offs.Offset{of("g", "a", 1, math.MinInt)}, 0},
		{[]offs.Offset{of("g", "a", 0, -1)}, 0}, {[]offs.Offset{of("g", "a", 0, math.MinInt)}, 0}, {[]offs.Offset{of("g", "a", 0, math.MinInt+4)}, 0}, {[]offs.Offset{of("none", "a", 0, math.MinInt)}, 0}, {[]offs.Offset{of("none", "a", 0, -1)}, 0},
		{[]offs.Offset{of("g", "%retry%g", 0, 9)}, 9}, {[]offs.Offset{of("g", "a", 2, 9)}, 9}, {[]offs.Offset{of("h", "b", 0, 9)}, 9}, {[]offs.Offset{of("i", "a", 0, 9)}, 9}, {[]offs.Offset{of("none", "a", 0, math.MaxInt)}, top},
		{[]offs.Offset{of("", "", 0, 9)}, 9}, {[]offs.Offset{of("G", "a", 0, 9)}, 9}, {[]offs.Offset{of("g", "a", 3, 9)}, 9}, {[]offs.Offset{of("g", "a", -1, 9)}, 9}, // of what may not be set nothing is
		{[]offs.Offset{of("g", "a", 0, 8), of("h", "a", 0, 8), of("g", "b", 1, 2), of("h", "a", 0, 1), of("g", "a", 1, 3)}, 6},
		{[]offs.Offset{of("h", "a", 0, 8), of("g", "a", 0, 4), of("h", "a", 0, 8), of("h", "a", 0, 9)}, 4}, // that it stands there several times is one and the same
		{long(999, of("g", "a", 0, 7)), 1998}, {long(1000, of("g", "a", 0, 7)), 2000}, {long(1001, of("g", "a", 0, 7)), 2000}, {long(5000, of("g", "a", 0, 7)), 2000},
		{long(1000, of("g", "a", 0, 0), of("g", "a", 0, 7)), 0}, {long(999, of("g", "a", 0, 0), of("g", "a", 0, 7), of("g", "a", 0, 8)), 2}, {long(1000, of("x", "a", 0, math.MaxInt)), 1000 * top}, {long(1002, of("x", "a", 0, top), of("x", "b", 0, 1)), 1000 * top},
	} {
		was := slices.Clone(c.ends)
		for range 2 {
			if n := o.Behind(c.ends...); n != c.want {
				t.Errorf("%d ends, %.100v: %d, not %d", len(c.ends), c.ends[:min(len(c.ends), 3)], n, c.want)
			}
		}
		if !slices.Equal(was, c.ends) {
			t.Errorf("the ends became %v", c.ends)
		}
	}
	tells(t, o, of("g", "%retry%g", 0, 0), of("g", "a", 0, 5), of("g", "a", 1, top), of("h", "a", 0, 7))
}

// TestBehindGoesWithWhatIsSet: flushed or not.
func TestBehindGoesWithWhatIsSet(t *testing.T) {
	d, o := empty(t)
	ends := []offs.Offset{of("g", "a", 0, 10), of("g", "b", 2, 10)}
	for at, want := range []int{20, 19, 18, 17, 16, 15, 14, 13, 12, 11, 10, 10} {
		set(t, o, of("g", "a", 0, at))
		if n := o.Behind(ends...); n != want {
			t.Errorf("at %d: %d, not %d", at, n, want)
		}
	}
	if n := open(t, d).Behind(ends...); n != 20 {
		t.Errorf("not flushed: %d", n)
	}
	flush(t, o)
	if n := open(t, d).Behind(ends...); n != 10 {
		t.Errorf("flushed: %d", n)
	}
}

// TestWhatIsAnsweredIsNobodyElses: neither an answer that is written into, nor one that is added to, changes the offsets; nor does a later Set change an answer.
func TestWhatIsAnsweredIsNobodyElses(t *testing.T) {
	d, o := empty(t)
	l := rising()
	var was [][]offs.Offset
	for i, x := range l {
		set(t, o, x)
		all := o.All()
		clear(append(all[:i], l...))
		clear(o.All())
		was = append(was, o.All())
		tells(t, o, l[:i+1]...)
	}
	flush(t, o)
	o = open(t, d)
	clear(append(o.All()[:3], l...))
	tells(t, o, l...)
	for i := range l {
		set(t, o, of(l[i].Group, l[i].Topic, l[i].Queue, 3))
		set(t, o, of("c", "c"+strconv.Itoa(i), 0, 3))
	}
	for i, all := range was {
		if !slices.Equal(all, l[:i+1]) {
			t.Errorf("it became %v", all)
		}
	}
}

// TestTwoDisks: the offsets of one have nothing to do with those of the other.
func TestTwoDisks(t *testing.T) {
	d, o := empty(t)
	e, p := empty(t)
	set(t, o, of("g", "a", 0, 5))
	set(t, p, of("g", "b", 0, 6))
	tells(t, o, of("g", "a", 0, 5))
	tells(t, p, of("g", "b", 0, 6))
	flush(t, o)
	flush(t, p)
	lasts(t, d, of("g", "a", 0, 5))
	lasts(t, e, of("g", "b", 0, 6))
}

func TestNil(t *testing.T) {
	if o, e := offs.Open(nil); o != nil || e != api.ErrArg {
		t.Errorf("Open: %v, %d", o, e)
	}
	var o *offs.Offsets
	for _, x := range []offs.Offset{{}, of("g", "a", 0, 5), of("G", "a", 0, 5), of("g", "a", 9, 5), of("g", "a", 0, -5)} {
		if e := o.Set(x); e != api.ErrArg {
			t.Errorf("Set: %d", e)
		}
		if n := o.Get(x.Group, x.Topic, x.Queue); n != 0 {
			t.Errorf("Get: %d", n)
		}
		if n := o.Behind(x, x); n != 0 {
			t.Errorf("Behind: %d", n)
		}
	}
	if n := o.Behind(); n != 0 {
		t.Errorf("Behind of none: %d", n)
	}
	if e := o.Flush(); e != api.ErrArg {
		t.Errorf("Flush: %d", e)
	}
	if l := o.All(); len(l) != 0 {
		t.Errorf("All: %v", l)
	}
}

// TestWhatOpenDidNotMake: such offsets have no disk; nothing panics, and nothing is flushed.
func TestWhatOpenDidNotMake(t *testing.T) {
	o := &offs.Offsets{}
	set(t, o, of("g", "a", 0, 5))
	tells(t, o, of("g", "a", 0, 5))
	if e := o.Flush(); e != api.ErrArg {
		t.Errorf("Flush: %d", e)
	}
}
