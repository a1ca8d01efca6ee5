package offs_test

import (
	"maps"
	"math"
	"math/big"
	"math/rand"
	"regexp"
	"slices"
	"strconv"
	"strings"
	"testing"

	"reveille/api"
	"reveille/disk"
	"reveille/offs"
	"reveille/topic"
)

// plain is offsets as the chapter's words say it: they stand in a map.
type plain struct {
	d   *disk.Disk
	all map[string]offs.Offset
}

var (
	groups = regexp.MustCompile(`^[a-z0-9-]{1,8}$`)
	topics = regexp.MustCompile(`^([a-z0-9-]{1,16}|%(retry|dead)%[a-z0-9-]{1,8})$`)
	// one is an offset as it is saved, but its last six bytes: three kinds of bytes that may stand in one follow one another.
	one = regexp.MustCompile(`^\x00([\x01-\x08])([a-z0-9-]*)\x00([\x01-\x10])([a-z0-9%-]*)([\x00-\x02])`)
)

// key is what a map's offset is known by; by their keys they rise as they are to, since no name has a nought.
func key(group, topic string, queue int) string {
	return group + "\x00" + topic + "\x00" + strconv.Itoa(queue)
}

// offsetsOf is the offsets that bytes are; false, if they are none.
func offsetsOf(s string) (map[string]offs.Offset, bool) {
	if s == "" || s[0] > 64 {
		return nil, false
	}
	all, last := map[string]offs.Offset{}, ""
	many, rest := int(s[0]), s[1:]
	for range many {
		m := one.FindStringSubmatch(rest)
		if m == nil || len(m[2]) != int(m[1][0]) || len(m[4]) != int(m[3][0]) || !topics.MatchString(m[4]) || len(rest) < len(m[0])+6 {
			return nil, false
		}
		at := new(big.Int).SetBytes([]byte(rest[len(m[0]) : len(m[0])+6])).Int64()
		rest = rest[len(m[0])+6:]
		x := of(m[2], m[4], int(m[5][0]), int(at))
		k := key(x.Group, x.Topic, x.Queue)
		if at > top || k <= last {
			return nil, false
		}
		all[k], last = x, k
	}
	return all, rest == ""
}

func openPlain(d *disk.Disk) (*plain, api.Errno) {
	s, there, e := topic.Load(d, "groups")
	if e != api.OK {
		return nil, e
	}
	if !there {
		return &plain{d, map[string]offs.Offset{}}, api.OK
	}
	all, ok := offsetsOf(s)
	if !ok {
		return nil, api.ErrForm
	}
	return &plain{d, all}, api.OK
}

func (p *plain) set(x offs.Offset) api.Errno {
	k := key(x.Group, x.Topic, x.Queue)
	switch _, there := p.all[k]; {
	case !groups.MatchString(x.Group) || !topics.MatchString(x.Topic):
		return api.ErrName
	case x.Queue < 0 || x.Queue > 2:
		return api.ErrQueue
	case x.At < 0 || x.At > top:
		return api.ErrRange
	case !there && len(p.all) == 64:
		return api.ErrLong
	}
	p.all[k] = x
	return api.OK
}

func (p *plain) rising() []offs.Offset {
	var l []offs.Offset
	for _, k := range slices.Sorted(maps.Keys(p.all)) {
		l = append(l, p.all[k])
	}
	return l
}

func (p *plain) flush() api.Errno { return topic.Save(p.d, "groups", bytesOf(p.rising()...)) }

func (p *plain) behind(ends []offs.Offset) int {
	sum := new(big.Int)
	for i, x := range ends {
		if i == 1000 {
			break
		}
		left := big.NewInt(int64(min(x.At, top)))
		left.Sub(left, big.NewInt(int64(p.all[key(x.Group, x.Topic, x.Queue)].At)))
		if left.Sign() > 0 {
			sum.Add(sum, left)
		}
	}
	return int(sum.Int64())
}

// twins are offsets, and the plain ones that they are held against, on a disk of their own.
type twins struct {
	d, other *disk.Disk
	o        *offs.Offsets
	p        *plain
	rest     []byte // tells what happens next; of none that are left, noughts
}

func (w *twins) next(n int) int {
	if len(w.rest) == 0 {
		return 0
	}
	b := w.rest[0]
	w.rest = w.rest[1:]
	return int(b) % n
}

// begin opens both; where they can't be, a crash comes, or what is no offsets goes.
func (w *twins) begin(t *testing.T) {
	t.Helper()
	for {
		o, e := offs.Open(w.d)
		p, want := openPlain(w.other)
		if e != want || (o == nil) != (p == nil) {
			t.Fatalf("Open: %d, not %d", e, want)
		}
		w.same(t)
		switch e {
		case api.OK:
			w.o, w.p = o, p
			return
		case api.ErrDown:
			w.crash()
		default:
			w.both(t, func(d *disk.Disk) api.Errno { return d.Delete("groups") })
		}
	}
}

func (w *twins) crash() {
	p := disk.Plan{Lack: w.next(25) - 2}
	for range w.next(w.d.Waits() + 2) {
		p.Keep = append(p.Keep, w.next(3) > 0)
	}
	w.d.Crash(p)
	w.other.Crash(p)
}

// both does one thing to both disks.
func (w *twins) both(t *testing.T, do func(d *disk.Disk) api.Errno) {
	t.Helper()
	if e, want := do(w.d), do(w.other); e != want {
		t.Fatalf("%d, not %d", e, want)
	}
}

// offset is mostly one that may be; now and then not.
func (w *twins) offset() offs.Offset {
	x := of([...]string{"a", "b", "a-", "0", "z9-z9-z9", "aa"}[w.next(6)], [...]string{"a", "b-c", "%retry%a", "%dead%b", strings.Repeat("z", 16), "-", "aa"}[w.next(7)], w.next(3), w.next(256)<<w.next(34))
	switch w.next(40) {
	case 0:
		x.Group = [...]string{"", "A", "123456789", "%retry%a", "a\x00", "%dead%"}[w.next(6)]
	case 1:
		x.Topic = [...]string{"", "A", strings.Repeat("z", 17), "%retry%", "%dead%123456789", "%a"}[w.next(6)]
	case 2:
		x.Queue = w.next(256) - 100
	case 3:
		x.At = [...]int{math.MinInt, -1, top, top + 1, 1<<48 - 1, math.MaxInt}[w.next(6)]
	}
	return x
}

func (w *twins) offsets(n int) []offs.Offset {
	l := make([]offs.Offset, n)
	for i := range l {
		l[i] = w.offset()
	}
	return l
}

// text is like the bytes of offsets: mostly rising, now and then with a byte that was turned, or too short.
func (w *twins) text() string {
	l := w.offsets(w.next(6))
	if w.next(5) > 0 {
		slices.SortFunc(l, func(a, b offs.Offset) int {
			return strings.Compare(key(a.Group, a.Topic, a.Queue), key(b.Group, b.Topic, b.Queue))
		})
	}
	b := []byte(bytesOf(l...))
	if w.next(6) == 0 {
		b[w.next(256)%len(b)] += byte(w.next(4))
	}
	if w.next(12) == 0 {
		b = b[:w.next(256)%len(b)]
	}
	return string(b)
}

func (w *twins) set(t *testing.T, l ...offs.Offset) {
	t.Helper()
	for _, x := range l {
		if e, want := w.o.Set(x), w.p.set(x); e != want {
			t.Fatalf("Set of %v: %d, not %d", x, e, want)
		}
	}
}

// step does one thing with both; what the two told must be one.
func (w *twins) step(t *testing.T) {
	t.Helper()
	switch w.next(18) {
	default:
		w.set(t, w.offset())
	case 6:
		w.set(t, many(w.next(70))...)
	case 7, 8, 9:
		if e, want := w.o.Flush(), w.p.flush(); e != want {
			t.Fatalf("Flush: %d, not %d", e, want)
		}
	case 10:
		f, s := [...]string{"groups", "groups.new", "other"}[w.next(3)], w.text()
		w.both(t, func(d *disk.Disk) api.Errno { return topic.Save(d, f, s) })
	case 11:
		f, s := [...]string{"groups", "groups.new", "other"}[w.next(3)], w.text()
		w.both(t, func(d *disk.Disk) api.Errno { d.Create(f); return d.Write(f, 0, s) })
	case 12:
		f := [...]string{"groups", "groups.new", "other"}[w.next(3)]
		w.both(t, func(d *disk.Disk) api.Errno { return d.Delete(f) })
	case 13, 14:
		n := w.next(8)
		w.both(t, func(d *disk.Disk) api.Errno { d.Fuse(n); return api.OK })
	case 15:
		w.crash()
	case 16, 17:
		w.begin(t)
	}
	if w.d.Down() {
		w.alike(t) // what is still told then
		if w.next(3) > 0 {
			w.crash()
		}
	}
}

// same fails, if the disks aren't.
func (w *twins) same(t *testing.T) {
	t.Helper()
	if !w.d.Same(w.other) || w.d.Waits() != w.other.Waits() || w.d.Down() != w.other.Down() {
		t.Fatalf("the files %q, %d wait, down %t, not %q, %d, %t", w.d.List(""), w.d.Waits(), w.d.Down(), w.other.List(""), w.other.Waits(), w.other.Down())
	}
}

// alike fails, if one look tells another thing than that which it is held against.
func (w *twins) alike(t *testing.T) {
	t.Helper()
	w.same(t)
	all := w.o.All()
	if want := w.p.rising(); !slices.Equal(all, want) {
		t.Fatalf("All: %v, not %v", all, want)
	}
	ends := append(all, w.offsets(w.next(5))...)
	for _, x := range ends {
		if n, want := w.o.Get(x.Group, x.Topic, x.Queue), w.p.all[key(x.Group, x.Topic, x.Queue)].At; n != want {
			t.Fatalf("Get of %v: %d, not %d", x, n, want)
		}
	}
	for i := range ends {
		ends[i].At += w.next(5) - 2
	}
	if n, want := w.o.Behind(ends...), w.p.behind(ends); n != want {
		t.Fatalf("Behind of %v: %d, not %d", ends, n, want)
	}
	ends = slices.Repeat(ends, w.next(3)*w.next(100))
	if n, want := w.o.Behind(ends...), w.p.behind(ends); n != want {
		t.Fatalf("Behind of %d ends: %d, not %d", len(ends), n, want)
	}
}

func play(t *testing.T, b []byte) {
	w := &twins{rest: slices.Clone(b)}
	capacity := 16 * w.next(256)
	w.d, w.other = disk.New(capacity), disk.New(capacity)
	w.begin(t)
	for len(w.rest) > 0 {
		w.step(t)
		w.alike(t)
	}
}

func TestAsThePlainOnes(t *testing.T) {
	r := rand.New(rand.NewSource(14))
	for range 1500 {
		b := make([]byte, 20+r.Intn(700))
		r.Read(b)
		play(t, b)
	}
}

func FuzzOffsets(f *testing.F) {
	f.Add([]byte{})
	r := rand.New(rand.NewSource(15))
	for range 20 {
		b := make([]byte, 400)
		r.Read(b)
		f.Add(b)
	}
	f.Fuzz(func(t *testing.T, b []byte) { play(t, b[:min(len(b), 1000)]) })
}

// opens fails, if what is saved is opened, and is no offsets, or the other way round; what is opened is flushed as the same bytes.
func opens(t *testing.T, s string) bool {
	t.Helper()
	all, ok := offsetsOf(s)
	d := saved(t, s)
	o, e := offs.Open(d)
	if !ok {
		if o != nil || e != api.ErrForm {
			t.Fatalf("Open of %q: %v, %d", s, o, e)
		}
		return false
	}
	if e != api.OK {
		t.Fatalf("Open of %q: %d", s, e)
	}
	p := plain{d, all}
	tells(t, o, p.rising()...)
	flush(t, o)
	if x, there, e := topic.Load(d, "groups"); x != s || !there || e != api.OK {
		t.Fatalf("it became %q, %t, %d, not %q", x, there, e, s)
	}
	return true
}

func TestBytesThatMayBeOffsets(t *testing.T) {
	r := rand.New(rand.NewSource(16))
	are := 0
	for range 10000 {
		b := make([]byte, 200)
		r.Read(b)
		if opens(t, (&twins{rest: b}).text()) {
			are++
		}
	}
	if are < 1000 || are > 9000 {
		t.Errorf("%d are offsets: too many are alike", are)
	}
}

func FuzzOpen(f *testing.F) {
	for _, n := range []int{0, 1, 2, 5, 64, 65} {
		f.Add(bytesOf(many(n)...))
	}
	f.Add(bytesOf(rising()...))
	f.Add("")
	f.Fuzz(func(t *testing.T, s string) { opens(t, s[:min(len(s), 2000)]) })
}
