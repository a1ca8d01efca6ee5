package keyx_test

import (
	"math"
	"math/rand"
	"regexp"
	"slices"
	"testing"

	"reveille/api"
	"reveille/disk"
	"reveille/keyx"
)

// plain is an index as the chapter's words say it: a list of entries. To its disk it does what the words say is done, so that what that tells, and lets be, is told and let be.
type plain struct {
	d   *disk.Disk
	all []item
}

var (
	topics = regexp.MustCompile(`^([a-z0-9-]{1,16}|%(retry|dead)%[a-z0-9-]{1,8})$`)
	keys   = regexp.MustCompile(`^[!-~]{1,16}$`)
)

// first is the first error of a list of calls; those behind it aren't made.
func first(l ...func() api.Errno) api.Errno {
	for _, call := range l {
		if e := call(); e != api.OK {
			return e
		}
	}
	return api.OK
}

func newPlain(d *disk.Disk) (*plain, api.Errno) {
	old := d.List("x-")
	room := d.Room()
	for _, f := range old {
		room += d.Len(f)
	}
	e := first(func() api.Errno {
		if d.Down() {
			return api.ErrDown
		}
		if room < 24 {
			return api.ErrFull
		}
		return api.OK
	}, func() api.Errno {
		if len(old) == 0 {
			return api.OK
		}
		return d.Delete(old...)
	}, func() api.Errno { return d.Create("x-links") }, func() api.Errno { return d.Create("x-slots") }, func() api.Errno { return d.Write("x-slots", 0, files()[3]) })
	if e != api.OK {
		return nil, e
	}
	return &plain{d: d}, api.OK
}

func (p *plain) add(v item) api.Errno {
	if !topics.MatchString(v.topic) || !keys.MatchString(v.key) {
		return api.ErrName
	}
	if min(v.at, v.born) < 0 || max(v.at, v.born) > 1<<40 {
		return api.ErrArg
	}
	n, b := len(p.all), v.bucket()
	all := append(slices.Clip(p.all), v)
	l := files(all...)
	e := first(func() api.Errno { return p.d.Write("x-links", 20*n, l[1][20*n:]) }, func() api.Errno { return p.d.Write("x-slots", 3*b, l[3][3*b:3*b+3]) })
	if e == api.OK {
		p.all = all
	}
	return e
}

// find has no error to tell but that of the disk that is down: all else that could be wrong with it isn't.
func (p *plain) find(topic, key string, least, most int) ([]int, api.Errno) {
	if p.d.Down() {
		return nil, api.ErrDown
	}
	return sought(p.all, topic, key, least, most), api.OK
}

func (p *plain) chain(bucket int) []int {
	if p.d.Down() {
		return nil
	}
	return chain(p.all, bucket)
}

// twins are an index, and the plain one that it is held against, on a disk of its own.
type twins struct {
	d, other *disk.Disk
	x        *keyx.Index
	p        *plain
	places   int    // where the next record lies, about
	rest     []byte // tells what happens next; of none that are left, noughts
}

func (w *twins) next(n int) int {
	if len(w.rest) == 0 {
		return 0
	}
	b := w.rest[0]
	w.rest = w.rest[1:]
	return int(b) % n
}

// begin makes both anew; where their disk is down, a crash comes first, and where it has no room, what else it has goes.
func (w *twins) begin(t *testing.T) {
	t.Helper()
	for {
		x, e := keyx.New(w.d)
		p, want := newPlain(w.other)
		if e != want || (x == nil) != (p == nil) {
			t.Fatalf("New: %d, not %d", e, want)
		}
		w.same(t)
		switch e {
		case api.OK:
			w.x, w.p = x, p
			return
		case api.ErrDown:
			w.crash()
		case api.ErrFull:
			w.d, w.other = disk.New(24), disk.New(24)
		}
	}
}

func (w *twins) crash() {
	p := disk.Plan{Lack: w.next(25) - 2}
	for range w.next(w.d.Waits() + 2) {
		p.Keep = append(p.Keep, w.next(5) > 0)
	}
	w.d.Crash(p)
	w.other.Crash(p)
}

// both does one thing to both disks.
func (w *twins) both(t *testing.T, do func(d *disk.Disk) api.Errno) {
	t.Helper()
	if e, want := do(w.d), do(w.other); e != want {
		t.Fatalf("%d, not %d", e, want)
	}
}

// item is an entry, mostly of one of a few keys, some of which have one number; now and then one that may not be.
func (w *twins) item() item {
	v := item{topic: [...]string{"a", "a", "an", "c0", "%retry%g", "a", "b", "A", "a#b"}[w.next(9)], key: [...]string{"k", "s", "Aa", "BB", "k", "j", "b#c", "c", "", "k s"}[w.next(10)]}
	w.places += w.next(50)
	v.at, v.born = w.places, w.places/4
	switch w.next(20) {
	case 0:
		v.at = w.next(256)
	case 1:
		v.at = 1<<40 + 1 - w.next(3)
	case 2:
		v.born = 1<<40 + 1 - w.next(3)
	case 3:
		v.at = -w.next(3)
	case 4:
		v.born = -w.next(3)
	}
	return v
}

// step does one thing with both; what the two told must be one.
func (w *twins) step(t *testing.T) {
	t.Helper()
	switch w.next(20) {
	default:
		for range 1 + w.next(6) {
			v := w.item()
			if e, want := w.x.Add(v.topic, v.key, v.at, v.born), w.p.add(v); e != want {
				t.Fatalf("Add of %+v: %d, not %d", v, e, want)
			}
		}
	case 14, 15:
		n := w.next(16)
		w.both(t, func(d *disk.Disk) api.Errno { d.Fuse(n); return api.OK })
	case 16:
		if w.next(4) == 0 {
			w.crash()
			w.begin(t)
		}
	case 17:
		if w.next(4) == 0 {
			w.begin(t)
		}
	case 18:
		f := [...]string{"x-", "x-other", "y", "x"}[w.next(4)]
		w.both(t, func(d *disk.Disk) api.Errno { return d.Create(f) })
	case 19:
		f, n := [...]string{"x-", "x-other", "y", "x"}[w.next(4)], w.next(30)
		w.both(t, func(d *disk.Disk) api.Errno { return d.Write(f, 0, string(make([]byte, n))) })
	}
	if w.d.Down() {
		w.alike(t) // what is still told then
		if w.next(3) > 0 {
			w.crash()
			w.begin(t)
		}
	}
}

// same fails, if the disks aren't.
func (w *twins) same(t *testing.T) {
	t.Helper()
	if !w.d.Same(w.other) || w.d.Waits() != w.other.Waits() || w.d.Down() != w.other.Down() {
		t.Fatalf("the files %q, %d wait, down %t, not %q, %d, %t", w.d.List(""), w.d.Waits(), w.d.Down(), w.other.List(""), w.other.Waits(), w.other.Down())
	}
}

// alike fails, if one look tells another thing than that which it is held against.
func (w *twins) alike(t *testing.T) {
	t.Helper()
	w.same(t)
	if w.x.Len() != len(w.p.all) {
		t.Fatalf("Len: %d, not %d", w.x.Len(), len(w.p.all))
	}
	for b := -1; b <= buckets; b++ {
		if l, want := w.x.Chain(b), w.p.chain(b); !slices.Equal(l, want) {
			t.Fatalf("Chain of %d: %v, not %v", b, l, want)
		}
	}
	v := w.item()
	for _, least := range []int{0, w.places - w.next(256), w.places - w.next(256), w.next(256), math.MinInt, 1 << 40, math.MaxInt} {
		most := [...]int{32, 1, 2, w.next(256), math.MaxInt, 0, -1}[w.next(7)]
		l, e := w.x.Find(v.topic, v.key, least, most)
		if want, wrong := w.p.find(v.topic, v.key, least, most); !slices.Equal(l, want) || e != wrong {
			t.Fatalf("Find of %q, %q, from %d on, %d: %v, %d, not %v, %d", v.topic, v.key, least, most, l, e, want, wrong)
		}
	}
}

func play(t *testing.T, b []byte) {
	w := &twins{rest: slices.Clone(b)}
	capacity := 10 * w.next(256)
	w.d, w.other = disk.New(capacity), disk.New(capacity)
	w.begin(t)
	for len(w.rest) > 0 {
		w.step(t)
		w.alike(t)
	}
}

func TestAsThePlainIndex(t *testing.T) {
	r := rand.New(rand.NewSource(11))
	for range 2000 {
		b := make([]byte, 20+r.Intn(1000))
		r.Read(b)
		play(t, b)
	}
}

func FuzzIndex(f *testing.F) {
	f.Add([]byte{})
	r := rand.New(rand.NewSource(12))
	for range 20 {
		b := make([]byte, 600)
		r.Read(b)
		f.Add(b)
	}
	f.Fuzz(func(t *testing.T, b []byte) { play(t, b[:min(len(b), 1200)]) })
}
