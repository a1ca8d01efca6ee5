package topic_test

import (
	"math/rand"
	"regexp"
	"slices"
	"strings"
	"testing"

	"reveille/api"
	"reveille/disk"
	"reveille/topic"
)

// plain is a table as the chapter's words say it: a list of topics. To its disk it does what the words say is done.
type plain struct {
	d   *disk.Disk
	all []api.Topic
}

var (
	plainNames = regexp.MustCompile(`^[a-z0-9-]{1,16}$`)
	own        = regexp.MustCompile(`^%(retry|dead)%[a-z0-9-]{1,8}$`)
	// one is a topic as it is saved: three kinds of bytes that may stand in one follow one another.
	one = regexp.MustCompile(`(?s)^\x00([\x01-\x10])([a-z0-9-]*)([\x01-\x03])`)
)

func plainSave(d *disk.Disk, name, text string) api.Errno {
	if slices.Contains(d.List(""), name+".new") {
		if e := d.Delete(name + ".new"); e != api.OK {
			return e
		}
	}
	if e := d.Create(name + ".new"); e != api.OK {
		return e
	}
	if e := d.Write(name+".new", 0, sealed(text)); e == api.ErrDown {
		return e
	} else if e != api.OK {
		if d.Delete(name+".new") != api.OK {
			return api.ErrDown
		}
		return e
	}
	if e := d.Sync(name + ".new"); e != api.OK {
		return e
	}
	return d.Rename(name+".new", name)
}

func plainLoad(d *disk.Disk, name string) (string, bool, api.Errno) {
	if d.Down() {
		return "", false, api.ErrDown
	}
	if !slices.Contains(d.List(""), name) {
		return "", false, api.OK
	}
	s, _ := d.All(name)
	if len(s) < 4 || s != sealed(s[4:]) {
		return "", false, api.ErrForm
	}
	return s[4:], true, api.OK
}

// tableOf is the topics that bytes are; false, if they are none.
func tableOf(s string) ([]api.Topic, bool) {
	if s == "" || s[0] > 6 {
		return nil, false
	}
	many, rest := int(s[0]), s[1:]
	var l []api.Topic
	for range many {
		m := one.FindStringSubmatch(rest)
		if m == nil || len(m[2]) != int(m[1][0]) || slices.ContainsFunc(l, func(x api.Topic) bool { return x.Name == m[2] }) {
			return nil, false
		}
		l = append(l, api.Topic{Name: m[2], Queues: int(m[3][0])})
		rest = rest[len(m[0]):]
	}
	return l, rest == ""
}

func openPlain(d *disk.Disk) (*plain, api.Errno) {
	s, there, e := plainLoad(d, "topics")
	if e != api.OK {
		return nil, e
	}
	p := &plain{d: d}
	if there {
		l, ok := tableOf(s)
		if !ok {
			return nil, api.ErrForm
		}
		p.all = l
	}
	return p, api.OK
}

func (p *plain) queues(name string) int {
	if own.MatchString(name) {
		return 1
	}
	for _, x := range p.all {
		if x.Name == name {
			return x.Queues
		}
	}
	return 0
}

func (p *plain) check(name string, queue int) api.Errno {
	n := p.queues(name)
	switch {
	case n == 0:
		return api.ErrTopic
	case queue < 0 || queue >= n:
		return api.ErrQueue
	}
	return api.OK
}

func (p *plain) add(x api.Topic) api.Errno {
	switch {
	case !plainNames.MatchString(x.Name):
		return api.ErrName
	case x.Queues < 1 || x.Queues > 3:
		return api.ErrArg
	case p.queues(x.Name) > 0:
		return api.ErrThere
	case len(p.all) == 6:
		return api.ErrLong
	}
	l := append(slices.Clone(p.all), x)
	e := plainSave(p.d, "topics", bytesOf(l...))
	if e == api.OK {
		p.all = l
	}
	return e
}

// twins are a table, and the plain one that it is held against, on a disk of its own.
type twins struct {
	d, other *disk.Disk
	x        *topic.Table
	p        *plain
	rest     []byte // tells what happens next; of none that are left, noughts
}

func (w *twins) next(n int) int {
	if len(w.rest) == 0 {
		return 0
	}
	b := w.rest[0]
	w.rest = w.rest[1:]
	return int(b) % n
}

// begin opens both; where they can't be, a crash comes, or what is no table goes.
func (w *twins) begin(t *testing.T) {
	t.Helper()
	for {
		x, e := topic.Open(w.d)
		p, want := openPlain(w.other)
		if e != want || (x == nil) != (p == nil) {
			t.Fatalf("Open: %d, not %d", e, want)
		}
		w.same(t)
		switch e {
		case api.OK:
			w.x, w.p = x, p
			return
		case api.ErrDown:
			w.crash()
		default:
			w.both(t, func(d *disk.Disk) api.Errno { return d.Delete("topics") })
		}
	}
}

func (w *twins) crash() {
	p := disk.Plan{Lack: w.next(25) - 2}
	for range w.next(w.d.Waits() + 2) {
		p.Keep = append(p.Keep, w.next(3) > 0)
	}
	w.d.Crash(p)
	w.other.Crash(p)
}

// both does one thing to both disks.
func (w *twins) both(t *testing.T, do func(d *disk.Disk) api.Errno) {
	t.Helper()
	if e, want := do(w.d), do(w.other); e != want {
		t.Fatalf("%d, not %d", e, want)
	}
}

// topic is mostly one of a few; now and then one that may not be.
func (w *twins) topic() api.Topic {
	x := api.Topic{Name: [...]string{"a", "b", "c", "d-0", "0", "-", strings.Repeat("z", 16), "orders", "", "A", "%retry%a", "%dead%b", strings.Repeat("z", 17)}[w.next(13)], Queues: 1 + w.next(3)}
	if w.next(8) == 0 {
		x.Queues = w.next(256) - 100
	}
	return x
}

// file is a name: mostly that of a file that Save makes, or made.
func (w *twins) file() string {
	return [...]string{"topics", "topics.new", "base", "base.new", "other", "topics.new.new", ""}[w.next(7)]
}

// text is some bytes, or what is like those of a table.
func (w *twins) text() string {
	if w.next(2) == 0 {
		return strings.Repeat(string(rune('A'+w.next(26))), w.next(70))
	}
	var l []api.Topic
	for range w.next(8) {
		l = append(l, w.topic())
	}
	b := []byte(bytesOf(l...))
	if w.next(6) == 0 {
		b[w.next(256)%len(b)] += byte(w.next(4))
	}
	return string(b)
}

// step does one thing with both; what the two told must be one.
func (w *twins) step(t *testing.T) {
	t.Helper()
	switch w.next(16) {
	default:
		x := w.topic()
		if e, want := w.x.Add(x.Name, x.Queues), w.p.add(x); e != want {
			t.Fatalf("Add of %v: %d, not %d", x, e, want)
		}
	case 7, 8:
		f, s := w.file(), w.text()
		if e, want := topic.Save(w.d, f, s), plainSave(w.other, f, s); e != want {
			t.Fatalf("Save of %q, under %q: %d, not %d", s, f, e, want)
		}
	case 9:
		f, s := w.file(), sealed(w.text())
		w.both(t, func(d *disk.Disk) api.Errno { d.Create(f); return d.Write(f, 0, s) })
	case 10:
		f := w.file()
		w.both(t, func(d *disk.Disk) api.Errno { return d.Delete(f) })
	case 11, 12:
		n := w.next(8)
		w.both(t, func(d *disk.Disk) api.Errno { d.Fuse(n); return api.OK })
	case 13:
		w.crash()
	case 14, 15:
		w.begin(t)
	}
	if w.d.Down() {
		w.alike(t) // what is still told then
		if w.next(3) > 0 {
			w.crash()
		}
	}
}

// same fails, if the disks aren't.
func (w *twins) same(t *testing.T) {
	t.Helper()
	if !w.d.Same(w.other) || w.d.Waits() != w.other.Waits() || w.d.Down() != w.other.Down() {
		t.Fatalf("the files %q, %d wait, down %t, not %q, %d, %t", w.d.List(""), w.d.Waits(), w.d.Down(), w.other.List(""), w.other.Waits(), w.other.Down())
	}
}

// alike fails, if one look tells another thing than that which it is held against.
func (w *twins) alike(t *testing.T) {
	t.Helper()
	w.same(t)
	if l := w.x.All(); !slices.Equal(l, w.p.all) {
		t.Fatalf("All: %v, not %v", l, w.p.all)
	}
	for _, name := range []string{w.topic().Name, "a", "%dead%a"} {
		if n, want := w.x.Queues(name), w.p.queues(name); n != want {
			t.Fatalf("Queues of %q: %d, not %d", name, n, want)
		}
		for q := -1; q < 5; q++ {
			if e, want := w.x.Check(name, q), w.p.check(name, q); e != want {
				t.Fatalf("Check of %q, %d: %d, not %d", name, q, e, want)
			}
		}
	}
	for _, f := range []string{"topics", "topics.new", "base", "other", "none"} {
		s, there, e := topic.Load(w.d, f)
		if want, is, wrong := plainLoad(w.other, f); s != want || there != is || e != wrong {
			t.Fatalf("Load of %q: %q, %t, %d, not %q, %t, %d", f, s, there, e, want, is, wrong)
		}
	}
}

func play(t *testing.T, b []byte) {
	w := &twins{rest: slices.Clone(b)}
	capacity := 2 * w.next(256)
	w.d, w.other = disk.New(capacity), disk.New(capacity)
	w.begin(t)
	for len(w.rest) > 0 {
		w.step(t)
		w.alike(t)
	}
}

func TestAsThePlainTable(t *testing.T) {
	r := rand.New(rand.NewSource(13))
	for range 4000 {
		b := make([]byte, 20+r.Intn(600))
		r.Read(b)
		play(t, b)
	}
}

func FuzzTable(f *testing.F) {
	f.Add([]byte{})
	r := rand.New(rand.NewSource(14))
	for range 20 {
		b := make([]byte, 400)
		r.Read(b)
		f.Add(b)
	}
	f.Fuzz(func(t *testing.T, b []byte) { play(t, b[:min(len(b), 1200)]) })
}

// opens fails, if what is sealed is opened, and is no table, or the other way round; one that is opened is saved as the same bytes.
func opens(t *testing.T, s string) {
	l, ok := tableOf(s)
	d := with(t, 1<<20, "topics", sealed(s))
	x, e := topic.Open(d)
	if !ok {
		if x != nil || e != api.ErrForm {
			t.Fatalf("Open of %q: %v, %d", s, x, e)
		}
		return
	}
	if e != api.OK {
		t.Fatalf("Open of %q: %d", s, e)
	}
	tells(t, x, l...)
	if len(l) > 0 {
		d, x := empty(t)
		add(t, x, l...)
		loads(t, d, "topics", s)
	}
}

func TestBytesThatMayBeATable(t *testing.T) {
	r := rand.New(rand.NewSource(15))
	for range 20000 {
		b := make([]byte, 200)
		r.Read(b)
		opens(t, (&twins{rest: b}).text())
	}
}

func FuzzOpen(f *testing.F) {
	for n := range 7 {
		f.Add(bytesOf(six()[:n]...))
	}
	f.Add("")
	f.Fuzz(func(t *testing.T, s string) { opens(t, s[:min(len(s), 1000)]) })
}
