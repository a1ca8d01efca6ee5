package seg_test

import (
	"math/rand"
	"regexp"
	"slices"
	"strconv"
	"strings"
	"testing"

	"reveille/api"
	"reveille/disk"
	"reveille/seg"
)

// plain is a row as the chapter's words say it: its bytes are asked of a disk of its own whenever they are needed; it keeps what no file tells.
type plain struct {
	d       *disk.Disk
	head    string
	told    *regexp.Regexp // what a name must be, to tell a place
	size    int
	synced  int
	touched map[string]bool
}

// files is the names that tell a place, and the places, rising.
func (p *plain) files() (names []string, places []int) {
	for _, name := range p.d.List("") {
		if m := p.told.FindStringSubmatch(name); m != nil {
			at, _ := strconv.ParseInt(m[1], 10, 64)
			names, places = append(names, name), append(places, int(at))
		}
	}
	return names, places
}

// openPlain lets only those files be left that are the row's.
func openPlain(d *disk.Disk, head string, size int) (*plain, api.Errno) {
	told := regexp.MustCompile("(?s)^" + regexp.QuoteMeta(head) + "([0-9]{8})$")
	p := &plain{d: d, head: head, told: told, size: size, touched: map[string]bool{}}
	if d.Down() {
		return nil, api.ErrDown
	}
	var gone []string
	want, over := -1, false
	names, places := p.files()
	for i, name := range names {
		none := places[i]%size != 0 || d.Len(name) > size
		if none || over || want >= 0 && places[i] != want {
			gone = append(gone, name)
			continue
		}
		want, over = places[i]+size, d.Len(name) < size
		p.touched[name] = true
	}
	if len(gone) > 0 {
		if e := d.Delete(gone...); e != api.OK {
			return nil, e
		}
	}
	p.synced = p.begin()
	return p, api.OK
}

func (p *plain) begin() int {
	if _, l := p.files(); len(l) > 0 {
		return l[0]
	}
	return 0
}

func (p *plain) end() int {
	names, l := p.files()
	if len(l) == 0 {
		return 0
	}
	return l[len(l)-1] + p.d.Len(names[len(l)-1])
}

func (p *plain) syncedTo() int { return min(max(p.synced, p.begin()), p.end()) }

func (p *plain) room() int {
	names, _ := p.files()
	if len(names) == 0 {
		return p.size
	}
	n := p.d.Len(names[len(names)-1])
	if n == p.size {
		return p.size
	}
	return p.size - n
}

func (p *plain) left(at int) int {
	names, l := p.files()
	for i, place := range l {
		if n := p.d.Len(names[i]); at >= place && at < place+n {
			return place + n - at
		}
	}
	return 0
}

func (p *plain) append(s string) (int, api.Errno) {
	if s == "" || len(s) > p.room() {
		return 0, api.ErrArg
	}
	at := p.end()
	names, l := p.files()
	if len(l) == 0 || p.d.Len(names[len(l)-1]) == p.size {
		if p.d.Down() {
			return 0, api.ErrDown
		}
		if len(s) > p.d.Room() {
			return 0, api.ErrFull
		}
		digits := strconv.Itoa(100000000 + at)[1:]
		if at > 99999999 {
			return 0, api.ErrRange
		}
		if e := p.d.Create(p.head + digits); e != api.OK {
			return 0, e
		}
		names, l = append(names, p.head+digits), append(l, at)
		p.touched[p.head+digits] = true // even if the write behind it isn't done
	}
	last := names[len(l)-1]
	if e := p.d.Write(last, at-l[len(l)-1], s); e != api.OK {
		return 0, e
	}
	p.touched[last] = true
	return at, api.OK
}

func (p *plain) read(at, n int) (string, api.Errno) {
	if n == 0 && at >= p.begin() && at <= p.end() {
		return "", api.OK
	}
	names, l := p.files()
	for i, place := range l {
		if n > 0 && at >= place && at+n <= place+p.d.Len(names[i]) {
			return p.d.Read(names[i], at-place, n)
		}
	}
	return "", api.ErrRange
}

func (p *plain) sync() api.Errno {
	var l []string
	names, _ := p.files()
	for _, name := range names {
		if p.touched[name] {
			l = append(l, name)
		}
	}
	if len(l) > 0 {
		if e := p.d.Sync(l...); e != api.OK {
			return e
		}
	}
	p.synced, p.touched = p.end(), map[string]bool{}
	return api.OK
}

func (p *plain) cut(at int) api.Errno {
	if at < p.begin() || at > p.end() {
		return api.ErrRange
	}
	names, l := p.files()
	var gone []string
	for i, place := range l {
		if i > 0 && place >= at {
			gone = append(gone, names[i])
		}
	}
	if len(gone) > 0 {
		if e := p.d.Delete(gone...); e != api.OK {
			return e
		}
		for _, name := range gone {
			delete(p.touched, name)
		}
	}
	p.synced = min(p.synced, p.end())
	names, l = p.files()
	if len(l) == 0 || at == p.end() {
		return api.OK
	}
	e := p.d.Cut(names[len(l)-1], at-l[len(l)-1])
	p.synced = min(p.synced, p.end())
	return e
}

func (p *plain) drop() (int, api.Errno) {
	names, l := p.files()
	if len(l) < 2 {
		return 0, api.ErrNone
	}
	if e := p.d.Delete(names[0]); e != api.OK {
		return 0, e
	}
	return l[1], api.OK
}

// pair is two rows on one disk, and the two that they are held against, on another.
type pair struct {
	d, twin *disk.Disk
	heads   [2]string
	sizes   [2]int
	rows    [2]*seg.Row
	plains  [2]*plain
	rest    []byte // tells what is to be done next; of none that are left, noughts
}

func (x *pair) next(n int) int {
	if len(x.rest) == 0 {
		return 0
	}
	b := x.rest[0]
	x.rest = x.rest[1:]
	return int(b) % n
}

func newPair(t *testing.T, b []byte) *pair {
	x := &pair{rest: b}
	x.heads = [...][2]string{{"a", "b"}, {"a", "ab"}, {"a", "a0"}, {"", "0"}, {"", "q-"}}[x.next(5)]
	for i := range x.sizes {
		x.sizes[i] = [...]int{16, 17, 20}[x.next(3)]
	}
	capacity := 60 + 3*x.next(60)
	x.d, x.twin = disk.New(capacity), disk.New(capacity)
	x.open(t)
	return x
}

// open opens all rows anew; a fuse may go in it, then there was a crash.
func (x *pair) open(t *testing.T) {
	t.Helper()
	for i := 0; i < 2; i++ {
		r, e := seg.Open(x.d, x.heads[i], x.sizes[i])
		p, want := openPlain(x.twin, x.heads[i], x.sizes[i])
		if e != want || (r == nil) != (p == nil) {
			t.Fatalf("Open: %d, not %d", e, want)
		}
		if r == nil {
			x.crash()
			i = -1
			continue
		}
		x.rows[i], x.plains[i] = r, p
	}
}

func (x *pair) crash() {
	plan := disk.Plan{Lack: x.next(20) - 4}
	for range x.next(x.d.Waits() + 2) {
		plan.Keep = append(plan.Keep, x.next(4) > 0)
	}
	x.d.Crash(plan)
	x.twin.Crash(plan)
}

// strew puts a file that may be no segment onto both disks.
func (x *pair) strew() {
	i := x.next(2)
	size := x.sizes[i]
	at := size*x.next(9) + x.next(5)/4
	if x.next(6) == 0 {
		at = 99999999 / size * size
	}
	name := x.heads[i] + strconv.Itoa(1000000000 + at)[2-x.next(9)/8:]
	s := strings.Repeat("s", [...]int{size, size, size, size + 1, size - 1, 0, 1, x.next(size)}[x.next(8)])
	for _, d := range []*disk.Disk{x.d, x.twin} {
		d.Create(name)
		if d.Len(name) == 0 {
			d.Write(name, 0, s)
		}
	}
}

// step does one thing with both; what the two told must be one.
func (x *pair) step(t *testing.T) {
	t.Helper()
	i := x.next(2)
	r, p := x.rows[i], x.plains[i]
	switch x.next(14) {
	case 0, 1, 2, 3, 4:
		n := [...]int{r.Room(), r.Room() + 1, r.Room() - 1, 0, 1, 2, 5, 9}[x.next(8)]
		s := strings.Repeat(string(rune('A'+x.next(26))), n)
		at, e := r.Append(s)
		if want, wrong := p.append(s); at != want || e != wrong {
			t.Fatalf("Append of %d bytes: %d, %d, not %d, %d", n, at, e, want, wrong)
		}
	case 5:
		at, n := p.begin()+x.next(60)-3, x.next(20)-1
		s, e := r.Read(at, n)
		if want, wrong := p.read(at, n); s != want || e != wrong {
			t.Fatalf("Read of %d from %d: %q, %d, not %q, %d", n, at, s, e, want, wrong)
		}
	case 6, 7:
		if e, want := r.Sync(), p.sync(); e != want {
			t.Fatalf("Sync: %d, not %d", e, want)
		}
	case 8, 9:
		at := p.end() + 1 - x.next(40)
		if x.next(3) == 0 {
			at = at / p.size * p.size
		}
		if e, want := r.Cut(at), p.cut(at); e != want {
			t.Fatalf("Cut to %d: %d, not %d", at, e, want)
		}
	case 10:
		at, e := r.Drop()
		if want, wrong := p.drop(); at != want || e != wrong {
			t.Fatalf("Drop: %d, %d, not %d, %d", at, e, want, wrong)
		}
	case 11:
		n := x.next(8)
		x.d.Fuse(n)
		x.twin.Fuse(n)
	case 12:
		x.crash()
		x.open(t)
	case 13:
		for range x.next(4) {
			x.strew()
		}
		x.open(t)
	}
	if x.d.Down() && x.next(3) > 0 { // or it goes on for a while
		x.crash()
		x.open(t)
	}
}

// alike fails, if one look tells another thing than that which it is held against.
func (x *pair) alike(t *testing.T) {
	t.Helper()
	if !x.d.Same(x.twin) || x.d.Waits() != x.twin.Waits() || x.d.Down() != x.twin.Down() {
		t.Fatalf("the files %q, %d wait, down %t, not %q, %d, %t", x.d.List(""), x.d.Waits(), x.d.Down(), x.twin.List(""), x.twin.Waits(), x.twin.Down())
	}
	for i, r := range x.rows {
		p := x.plains[i]
		if r.Begin() != p.begin() || r.End() != p.end() || r.Synced() != p.syncedTo() || r.Room() != p.room() {
			t.Fatalf("from %d to %d, synced up to %d, room %d, not %d, %d, %d, %d", r.Begin(), r.End(), r.Synced(), r.Room(), p.begin(), p.end(), p.syncedTo(), p.room())
		}
		for _, at := range []int{-1, 0, p.begin() - 1, p.begin(), p.begin() + 1 + x.next(40), p.end() - 1, p.end(), p.end() + 1} {
			if r.Left(at) != p.left(at) {
				t.Fatalf("left from %d: %d, not %d", at, r.Left(at), p.left(at))
			}
		}
		if x.d.Down() {
			continue
		}
		for at := r.Begin(); at < r.End(); at += r.Left(at) {
			s, e := r.Read(at, r.Left(at))
			if want, _ := p.read(at, p.left(at)); s != want || e != api.OK {
				t.Fatalf("from %d: %q, %d, not %q", at, s, e, want)
			}
		}
	}
}

// play plays a script through; in the end a crash shows what was synced.
func play(t *testing.T, b []byte) {
	x := newPair(t, slices.Clone(b))
	for len(x.rest) > 0 {
		x.step(t)
		x.alike(t)
	}
	x.crash()
	x.open(t)
	x.alike(t)
}

func TestAsThePlainRow(t *testing.T) {
	r := rand.New(rand.NewSource(5))
	for range 1500 {
		b := make([]byte, 20+r.Intn(400))
		r.Read(b)
		play(t, b)
	}
}

func FuzzRow(f *testing.F) {
	f.Add([]byte{})
	r := rand.New(rand.NewSource(6))
	for range 20 {
		b := make([]byte, 300)
		r.Read(b)
		f.Add(b)
	}
	f.Fuzz(func(t *testing.T, b []byte) { play(t, b[:min(len(b), 600)]) })
}
