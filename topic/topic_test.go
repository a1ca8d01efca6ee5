package topic_test

import (
	"math"
	"slices"
	"strings"
	"testing"

	"reveille/api"
	"reveille/disk"
	"reveille/topic"
)

// The tests of this file hold promise P13.1, for tables.

func open(t *testing.T, d *disk.Disk) *topic.Table {
	t.Helper()
	x, e := topic.Open(d)
	if e != api.OK || x == nil {
		t.Fatalf("Open: %v, %d", x, e)
	}
	return x
}

// empty is a table without topics, and its disk.
func empty(t *testing.T) (*disk.Disk, *topic.Table) {
	t.Helper()
	d := disk.New(1000)
	return d, open(t, d)
}

func add(t *testing.T, x *topic.Table, l ...api.Topic) {
	t.Helper()
	for _, v := range l {
		if e := x.Add(v.Name, v.Queues); e != api.OK {
			t.Fatalf("Add of %v: %d", v, e)
		}
	}
}

// bytesOf is topics as they are saved, as chapters 1 and 13 say it, not yet sealed.
func bytesOf(l ...api.Topic) string {
	b := []byte{byte(len(l))}
	for _, v := range l {
		b = append(b, byte(len(v.Name)>>8), byte(len(v.Name)))
		b = append(b, v.Name...)
		b = append(b, byte(v.Queues))
	}
	return string(b)
}

// tells fails, if a table tells other things than of these topics.
func tells(t *testing.T, x *topic.Table, l ...api.Topic) {
	t.Helper()
	if all := x.All(); !slices.Equal(all, l) {
		t.Fatalf("All: %v, not %v", all, l)
	}
	has := map[string]int{"": 0, "none": 0, "A": 0, "%retry%g": 1, "%dead%g": 1, "%retry%": 0}
	for _, v := range l {
		for _, name := range []string{v.Name + "x", strings.ToUpper(v.Name), v.Name[1:], " " + v.Name} {
			has[name] = 0
		}
	}
	for _, v := range l { // the names above may be other topics'
		has[v.Name] = v.Queues
	}
	for name, queues := range has {
		checks(t, x, name, queues)
	}
}

// checks fails, if a table tells that a topic has another number of queues.
func checks(t *testing.T, x *topic.Table, name string, queues int) {
	t.Helper()
	if n := x.Queues(name); n != queues {
		t.Fatalf("Queues of %q: %d, not %d", name, n, queues)
	}
	for _, q := range []int{math.MinInt, -256, -1, 0, 1, 2, 3, 4, 256, 1 << 32, math.MaxInt} {
		want := api.OK
		if queues == 0 {
			want = api.ErrTopic
		} else if q < 0 || q >= queues {
			want = api.ErrQueue
		}
		if e := x.Check(name, q); e != want {
			t.Fatalf("Check of %q, %d: %d, not %d", name, q, e, want)
		}
	}
}

// is fails, if a table, or what is saved of it, isn't of these topics; of none no file may be there.
func is(t *testing.T, d *disk.Disk, x *topic.Table, l ...api.Topic) {
	t.Helper()
	tells(t, x, l...)
	if len(l) == 0 {
		tellsNothing(t, d, "topics", api.OK)
	} else {
		loads(t, d, "topics", bytesOf(l...))
	}
	tells(t, open(t, d), l...)
}

// six is as many topics as a table has at most.
func six() []api.Topic {
	return []api.Topic{{Name: "b", Queues: 2}, {Name: "a", Queues: 1}, {Name: strings.Repeat("z", 16), Queues: 3}, {Name: "-", Queues: 1}, {Name: "0", Queues: 3}, {Name: "a-b", Queues: 2}}
}

func TestExample(t *testing.T) {
	d, x := empty(t)
	if e := x.Add("a", 2); e != api.OK {
		t.Fatal(e)
	}
	if e := x.Check("a", 2); e != api.ErrQueue {
		t.Errorf("Check: %d", e)
	}
	is(t, d, x, api.Topic{Name: "a", Queues: 2})
}

func TestTopicsInTheOrderInWhichTheyWereAdded(t *testing.T) {
	d, x := empty(t)
	is(t, d, x)
	for i, v := range six() {
		add(t, x, v)
		is(t, d, x, six()[:i+1]...)
	}
	d, x = empty(t)
	l := six()
	slices.Reverse(l)
	add(t, x, l...)
	is(t, d, x, l...)
}

func TestTheBytesOfATable(t *testing.T) {
	d, x := empty(t)
	holds(t, d) // of no topics nothing is saved
	add(t, x, api.Topic{Name: "b", Queues: 2})
	holds(t, d, "topics", sealed("\x01\x00\x01b\x02"))
	add(t, x, api.Topic{Name: "a-topic", Queues: 3})
	holds(t, d, "topics", sealed("\x02\x00\x01b\x02\x00\x07a-topic\x03"))
	add(t, x, api.Topic{Name: "0123456789abcdef", Queues: 1})
	holds(t, d, "topics", sealed("\x03\x00\x01b\x02\x00\x07a-topic\x03\x00\x100123456789abcdef\x01"))
}

func TestEachNumberOfQueues(t *testing.T) {
	for n := 1; n <= 3; n++ {
		d, x := empty(t)
		add(t, x, api.Topic{Name: "a", Queues: n})
		checks(t, x, "a", n)
		is(t, d, x, api.Topic{Name: "a", Queues: n})
	}
	d, x := empty(t)
	d.Fuse(0)
	for _, n := range []int{math.MinInt, -1, 0, 4, 5, 255, 256, 257, 1<<32 + 1, math.MaxInt} {
		if e := x.Add("a", n); e != api.ErrArg {
			t.Errorf("Add with %d queues: %d", n, e)
		}
	}
	is(t, d, x)
}

func TestNamesThatMayNotBe(t *testing.T) {
	d, x := empty(t)
	d.Fuse(0)
	for _, name := range []string{"", " ", "A", "a b", "a_b", "a.b", "é", "\x00", "a\n", strings.Repeat("a", 17), strings.Repeat("a", 1<<16), "%retry%g", "%dead%g", "%retry%", "%"} {
		for _, n := range []int{1, 3, 0, 4} {
			if e := x.Add(name, n); e != api.ErrName {
				t.Errorf("Add of %.20q: %d", name, e)
			}
		}
	}
	is(t, d, x)
}

// TestTheBrokersOwn: they are there in each table, with one queue; what is none of them isn't.
func TestTheBrokersOwn(t *testing.T) {
	_, without := empty(t)
	_, x := empty(t)
	add(t, x, api.Topic{Name: "g", Queues: 3}, api.Topic{Name: "retry", Queues: 2})
	for _, x := range []*topic.Table{without, x} {
		for _, name := range []string{"%retry%g", "%dead%g", "%retry%none", "%dead%12345678", "%retry%-", "%dead%0"} {
			checks(t, x, name, 1)
		}
		for _, name := range []string{"%retry%", "%dead%", "%retry%G", "%dead%123456789", "%other%g", "%retry%g%", "%RETRY%g", "retry%g", "%retryg", "%%retry%g", "%retry%%dead%g", " %retry%g", "%retry%g "} {
			checks(t, x, name, 0)
		}
	}
	checks(t, x, "g", 3)
	if l := without.All(); len(l) != 0 {
		t.Errorf("All: %v", l)
	}
}

// TestATopicThatIsThere: with as many queues, or another number.
func TestATopicThatIsThere(t *testing.T) {
	d, x := empty(t)
	l := six()
	for i, v := range l {
		add(t, x, v)
		d.Fuse(0)
		for _, w := range l[:i+1] {
			for n := 1; n <= 3; n++ {
				if e := x.Add(w.Name, n); e != api.ErrThere {
					t.Fatalf("Add of %q: %d", w.Name, e)
				}
			}
		}
		d.Fuse(-1)
		is(t, d, x, l[:i+1]...)
	}
}

func TestMoreTopicsThanSix(t *testing.T) {
	d, x := empty(t)
	add(t, x, six()...)
	for range 2 {
		d.Fuse(0)
		for _, name := range []string{"c", "7", strings.Repeat("y", 16)} {
			if e := x.Add(name, 1); e != api.ErrLong {
				t.Errorf("Add of %q: %d", name, e)
			}
		}
		if d.Down() {
			t.Error("it is down")
		}
		d.Fuse(-1)
		is(t, d, x, six()...)
		x = open(t, d)
	}
}

// TestWhichErrorIsFirst: of several that are due the one that the chapter names first is told.
func TestWhichErrorIsFirst(t *testing.T) {
	d := disk.New(len(sealed(bytesOf(six()...)))) // there is no room for one more, either
	save(t, d, "topics", bytesOf(six()...))
	x := open(t, d)
	for _, c := range []struct {
		name   string
		queues int
		want   api.Errno
	}{
		{"A", 0, api.ErrName}, {"A", 1, api.ErrName}, {"%retry%g", 9, api.ErrName}, {"a", 0, api.ErrArg}, {"a", 4, api.ErrArg}, {"new", 0, api.ErrArg}, {"new", 4, api.ErrArg}, {"a", 1, api.ErrThere}, {"a", 3, api.ErrThere}, {"new", 1, api.ErrLong}, {"new", 3, api.ErrLong},
	} {
		for _, fuse := range []int{-1, 0} {
			d.Fuse(fuse)
			if e := x.Add(c.name, c.queues); e != c.want || d.Down() {
				t.Errorf("Add of %q with %d queues: %d, not %d; down %t", c.name, c.queues, e, c.want, d.Down())
			}
		}
		if d.Sync() != api.ErrDown {
			t.Fatal("there is no fuse any more")
		}
		if e := x.Add(c.name, c.queues); e != c.want {
			t.Errorf("Add, down, of %q with %d queues: %d, not %d", c.name, c.queues, e, c.want)
		}
		d.Crash(disk.Plan{})
	}
	is(t, d, x, six()...)
}

// TestNoRoomForATopic: it isn't there then, and may be added as soon as there is room.
func TestNoRoomForATopic(t *testing.T) {
	l := six()[:3]
	n := 4 + len(bytesOf(l[:2]...))
	d := disk.New(n + 4 + len(bytesOf(l...)) - 1)
	x := open(t, d)
	add(t, x, l[:2]...)
	for range 3 {
		if e := x.Add(l[2].Name, l[2].Queues); e != api.ErrFull {
			t.Fatalf("Add: %d", e)
		}
		holds(t, d, "topics", sealed(bytesOf(l[:2]...)))
		is(t, d, x, l[:2]...)
	}
	add(t, x, api.Topic{Name: "c", Queues: 1}) // a shorter one goes in
	is(t, d, x, l[0], l[1], api.Topic{Name: "c", Queues: 1})
	none := disk.New(8)
	x = open(t, none)
	if e := x.Add("a", 1); e != api.ErrFull {
		t.Errorf("Add: %d", e)
	}
	is(t, none, x)
	holds(t, none)
}

// TestItGoesDownInAdd: then the topic isn't there, neither while it is down nor behind the crash; the table is of use as it is, and so is one opened anew.
func TestItGoesDownInAdd(t *testing.T) {
	l := six()
	for n := range l {
		for fuse := range 4 {
			for _, p := range plans(1) {
				d, x := empty(t)
				add(t, x, l[:n]...)
				d.Fuse(fuse)
				for range 2 {
					if e := x.Add(l[n].Name, l[n].Queues); e != api.ErrDown {
						t.Fatalf("Add: %d", e)
					}
					tells(t, x, l[:n]...) // no look asks the disk
					if y, e := topic.Open(d); y != nil || e != api.ErrDown {
						t.Fatalf("Open, down: %v, %d", y, e)
					}
				}
				d.Crash(p)
				is(t, d, x, l[:n]...)
				add(t, x, l[n])
				d.Crash(p)
				is(t, d, x, l[:n+1]...)
				y := open(t, d)
				if n < 5 {
					add(t, y, l[n+1])
					is(t, d, y, l[:n+2]...)
				}
			}
		}
	}
}

// TestWhatWasAddedLasts: as soon as it is told OK.
func TestWhatWasAddedLasts(t *testing.T) {
	d, x := empty(t)
	for i, v := range six() {
		add(t, x, v)
		d.Crash(disk.Plan{})
		is(t, d, x, six()[:i+1]...)
		x = open(t, d)
	}
}

func TestOpenChangesNothing(t *testing.T) {
	l := []string{"topics", sealed(bytesOf(six()...)), "topics.new", "left", "other", "stays"}
	d := with(t, 1000, l...)
	d.Fuse(0)
	for range 2 {
		tells(t, open(t, d), six()...)
	}
	if d.Down() {
		t.Error("it is down")
	}
	holds(t, d, l...)
	d = with(t, 1000, "topics.new", sealed(bytesOf(six()...)))
	tells(t, open(t, d))
}

// TestTablesThatAre: also one that no Add would save.
func TestTablesThatAre(t *testing.T) {
	for n := range 7 {
		d := with(t, 1000, "topics", sealed(bytesOf(six()[:n]...)))
		x := open(t, d)
		tells(t, x, six()[:n]...)
		if n < 6 {
			add(t, x, six()[n])
			is(t, d, x, six()[:n+1]...)
		}
	}
}

func TestWhatIsNoTable(t *testing.T) {
	right := bytesOf(six()...)
	of := func(name string, queues int) string { return bytesOf(api.Topic{Name: name, Queues: queues}) }
	l := []string{
		"", "\x01", "\x06", "\xff", "\x00\x00", "\x00\x00\x01a\x01", right + "\x00", right + right, "\x05" + right[1:], "\x07" + right[1:],
		"\x07" + right[1:] + bytesOf(api.Topic{Name: "c", Queues: 1})[1:], "\x00" + right,
		of("a", 0), of("a", 4), of("a", 255), of("", 1), of("A", 1), of("a b", 1), of("%retry%g", 1), of("%dead%g", 1), of(strings.Repeat("a", 17), 1), of(strings.Repeat("a", 300), 1), of("a\x00", 1),
		bytesOf(api.Topic{Name: "a", Queues: 1}, api.Topic{Name: "a", Queues: 1}), bytesOf(api.Topic{Name: "a", Queues: 1}, api.Topic{Name: "b", Queues: 1}, api.Topic{Name: "a", Queues: 3}),
		"\x01\x00\x02a\x01", "\x01\xff\xffa\x01", "\x01\x01a\x01", "\x01\x00\x01a\x00\x01", "\x01\x00\x00\x01",
	}
	for n := range len(right) {
		l = append(l, right[:n])
	}
	for _, s := range l {
		d := with(t, 2000, "topics", sealed(s))
		d.Fuse(0)
		if x, e := topic.Open(d); x != nil || e != api.ErrForm {
			t.Errorf("Open of %.30q: %v, %d", s, x, e)
		}
		if d.Down() {
			t.Errorf("of %.30q: it is down", s)
		}
		holds(t, d, "topics", sealed(s))
	}
}

func TestATableThatIsNotSealed(t *testing.T) {
	whole := sealed(bytesOf(six()...))
	l := []string{"", "\x00", "\x00\x00\x00", bytesOf(six()...), whole[:len(whole)-1], whole + "\x00", whole[4:] + whole[:4]}
	for i := range len(whole) {
		b := []byte(whole)
		b[i] ^= byte(1 + i%255)
		l = append(l, string(b))
	}
	for _, s := range l {
		d := with(t, 1000, "topics", s)
		if x, e := topic.Open(d); x != nil || e != api.ErrForm {
			t.Errorf("Open of %q: %v, %d", s, x, e)
		}
		holds(t, d, "topics", s)
	}
}

// TestWhatIsAnsweredIsNobodyElses: neither an answer that is written into, nor one that is added to, changes the table; nor does a later Add change an answer.
func TestWhatIsAnsweredIsNobodyElses(t *testing.T) {
	d, x := empty(t)
	l := six()
	var was [][]api.Topic
	for i, v := range l {
		add(t, x, v)
		all := x.All()
		clear(all)
		clear(append(all[:i], l...))
		was = append(was, x.All())
		is(t, d, x, l[:i+1]...)
	}
	for i, all := range was {
		if !slices.Equal(all, l[:i+1]) {
			t.Errorf("it became %v", all)
		}
	}
	for n := range l { // of one that was opened, too
		y := open(t, with(t, 1000, "topics", sealed(bytesOf(l[:n]...))))
		clear(append(y.All(), l...)[:n])
		tells(t, y, l[:n]...)
	}
}

// TestTwoTablesOnTwoDisks: one has nothing to do with the other.
func TestTwoTablesOnTwoDisks(t *testing.T) {
	d, x := empty(t)
	e, y := empty(t)
	add(t, x, api.Topic{Name: "a", Queues: 1}, api.Topic{Name: "b", Queues: 2})
	add(t, y, api.Topic{Name: "a", Queues: 3})
	is(t, d, x, api.Topic{Name: "a", Queues: 1}, api.Topic{Name: "b", Queues: 2})
	is(t, e, y, api.Topic{Name: "a", Queues: 3})
}

func TestNil(t *testing.T) {
	if x, e := topic.Open(nil); x != nil || e != api.ErrArg {
		t.Errorf("Open: %v, %d", x, e)
	}
	var x *topic.Table
	for _, name := range []string{"a", "", "A", "%retry%g", "%dead%g"} {
		for _, n := range []int{-1, 0, 1, 9} {
			if e := x.Add(name, n); e != api.ErrArg {
				t.Errorf("Add: %d", e)
			}
			if e := x.Check(name, n); e != api.ErrArg {
				t.Errorf("Check: %d", e)
			}
		}
		if n := x.Queues(name); n != 0 {
			t.Errorf("Queues: %d", n)
		}
	}
	if l := x.All(); len(l) != 0 {
		t.Errorf("All: %v", l)
	}
}

// TestWhatOpenDidNotMake: such a table has no disk; nothing panics, and nothing is added.
func TestWhatOpenDidNotMake(t *testing.T) {
	x := &topic.Table{}
	if e := x.Add("a", 1); e != api.ErrArg {
		t.Errorf("Add: %d", e)
	}
	if e := x.Add("A", 1); e != api.ErrName {
		t.Errorf("Add: %d", e)
	}
	tells(t, x)
}
