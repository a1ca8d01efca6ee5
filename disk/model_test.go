package disk_test

import (
	"math/rand"
	"slices"
	"strings"
	"testing"

	"reveille/api"
	"reveille/disk"
)

// abstract is a disk as the chapter's words say it, without a thought for time: each file has a number that no name changes, and its bytes are made anew whenever they are asked.
type abstract struct {
	capacity, fuse, last int
	down                 bool
	number               map[string]int
	image                map[int]string
	waits                []change
}

type change struct {
	file, at int
	s        string
}

func newAbstract(capacity int) *abstract {
	return &abstract{capacity: capacity, fuse: -1, number: map[string]int{}, image: map[int]string{}}
}

// done is an image with one write done.
func done(image string, at int, s string) string {
	if s == "" {
		return image
	}
	long := image + strings.Repeat("\x00", max(0, at+len(s)-len(image)))
	return long[:at] + s + long[at+len(s):]
}

func (a *abstract) bytes(name string) string {
	s := a.image[a.number[name]]
	for _, c := range a.waits {
		if c.file == a.number[name] {
			s = done(s, c.at, c.s)
		}
	}
	return s
}

func (a *abstract) there(names ...string) bool {
	for _, n := range names {
		if a.number[n] == 0 {
			return false
		}
	}
	return true
}

func (a *abstract) size() int {
	n := 0
	for name := range a.number {
		n += len(a.bytes(name))
	}
	return n
}

// ask tells an error, of those asked in this order; if there is none, the fuse burns, and the call is done.
func (a *abstract) ask(names []string, wrong func() api.Errno, do func()) api.Errno {
	if a.down {
		return api.ErrDown
	}
	if !a.there(names...) {
		return api.ErrNone
	}
	if e := wrong(); e != api.OK {
		return e
	}
	if a.fuse == 0 {
		a.down = true
		return api.ErrDown
	}
	a.fuse = max(a.fuse-1, -1)
	do()
	return api.OK
}

func nothingWrong() api.Errno { return api.OK }

func (a *abstract) create(name string) api.Errno {
	return a.ask(nil, func() api.Errno {
		if a.there(name) {
			return api.ErrThere
		}
		return api.OK
	}, func() {
		a.last++
		a.number[name] = a.last
	})
}

func (a *abstract) write(name string, at int, s string) api.Errno {
	return a.ask([]string{name}, func() api.Errno {
		was := a.bytes(name)
		if at < 0 || at > len(was) {
			return api.ErrRange
		}
		if a.size()-len(was)+len(done(was, at, s)) > a.capacity {
			return api.ErrFull
		}
		return api.OK
	}, func() {
		if s != "" {
			a.waits = append(a.waits, change{a.number[name], at, s})
		}
	})
}

func (a *abstract) syncOne(name string) {
	a.image[a.number[name]] = a.bytes(name)
	a.forget(a.number[name])
}

// forget lets no write to a file wait.
func (a *abstract) forget(file int) {
	a.waits = slices.DeleteFunc(a.waits, func(c change) bool { return c.file == file })
}

func (a *abstract) sync(names ...string) api.Errno {
	return a.ask(names, nothingWrong, func() {
		for _, n := range names {
			a.syncOne(n)
		}
	})
}

func (a *abstract) cut(name string, n int) api.Errno {
	return a.ask([]string{name}, func() api.Errno {
		if n < 0 || n > len(a.bytes(name)) {
			return api.ErrRange
		}
		return api.OK
	}, func() {
		a.syncOne(name)
		a.image[a.number[name]] = a.image[a.number[name]][:n]
	})
}

func (a *abstract) rename(from, to string) api.Errno {
	return a.ask([]string{from}, nothingWrong, func() {
		if from != to {
			a.forget(a.number[to])
			a.number[to] = a.number[from]
			delete(a.number, from)
		}
	})
}

func (a *abstract) delete(names ...string) api.Errno {
	return a.ask(names, nothingWrong, func() {
		for _, n := range names {
			a.forget(a.number[n])
			delete(a.number, n)
		}
	})
}

func (a *abstract) crash(p disk.Plan) {
	var left []change
	for i, c := range a.waits {
		if i < len(p.Keep) && p.Keep[i] {
			left = append(left, c)
		}
	}
	for i, c := range left {
		if i == len(left)-1 {
			c.s = c.s[:len(c.s)-min(max(p.Lack, 0), len(c.s))]
		}
		a.image[c.file] = done(a.image[c.file], c.at, c.s)
	}
	a.waits, a.fuse, a.down = nil, -1, false
}

// script tells what is to be done next, of bytes; of none that are left, noughts.
type script struct{ rest []byte }

func (s *script) next(n int) int {
	if len(s.rest) == 0 {
		return 0
	}
	b := s.rest[0]
	s.rest = s.rest[1:]
	return int(b) % n
}

func (s *script) name() string { return [...]string{"a", "b", "ab", "", "a"}[s.next(5)] }

func (s *script) names() []string {
	var l []string
	for range s.next(4) {
		l = append(l, s.name())
	}
	return l
}

// plan keeps about as many writes as wait.
func (s *script) plan(waits int) disk.Plan {
	p := disk.Plan{Lack: s.next(12) - 2}
	for range s.next(waits + 3) {
		p.Keep = append(p.Keep, s.next(3) > 0)
	}
	return p
}

// step does one thing with both; what the two told must be one.
func (s *script) step(d *disk.Disk, a *abstract) (got, want api.Errno) {
	name := s.name()
	switch s.next(15) {
	case 0, 1:
		return d.Create(name), a.create(name)
	case 2, 3, 4, 5, 6, 7:
		at, text := len(a.bytes(name))+1-s.next(5), strings.Repeat(string(rune('A'+s.next(26))), s.next(7))
		return d.Write(name, at, text), a.write(name, at, text)
	case 8:
		l := s.names()
		return d.Sync(l...), a.sync(l...)
	case 9:
		n := s.next(12) - 1
		return d.Cut(name, n), a.cut(name, n)
	case 10, 11:
		to := s.name()
		return d.Rename(name, to), a.rename(name, to)
	case 12:
		l := s.names()
		return d.Delete(l...), a.delete(l...)
	case 13:
		n := s.next(20) - 3
		d.Fuse(n)
		a.fuse = max(n, -1)
	case 14:
		p := s.plan(len(a.waits))
		d.Crash(p)
		a.crash(p)
	}
	return api.OK, api.OK
}

// alike fails, if one look at the disk tells another thing than the abstract one.
func alike(t *testing.T, d *disk.Disk, a *abstract) {
	t.Helper()
	var names []string
	for n := range a.number {
		names = append(names, n)
	}
	slices.Sort(names)
	if l := d.List(""); !slices.Equal(l, names) {
		t.Fatalf("files %q, not %q", l, names)
	}
	if d.Size() != a.size() || d.Room() != a.capacity-a.size() || d.Waits() != len(a.waits) || d.Down() != a.down {
		t.Fatalf("size %d, room %d, waits %d, down %t, not %d, %d, %d, %t", d.Size(), d.Room(), d.Waits(), d.Down(), a.size(), a.capacity-a.size(), len(a.waits), a.down)
	}
	copied := disk.New(greatest)
	for _, n := range names {
		ok(t, copied.Create(n), copied.Write(n, 0, a.bytes(n)))
		if d.Len(n) != len(a.bytes(n)) {
			t.Fatalf("%q: %d bytes, not %d", n, d.Len(n), len(a.bytes(n)))
		}
		if !a.down {
			has(t, d, n, a.bytes(n))
		}
	}
	if !d.Same(copied) || !copied.Same(d) {
		t.Fatal("it isn't the same")
	}
}

// play plays a script through; in the end a crash shows the images.
func play(t *testing.T, b []byte) {
	s := &script{b}
	capacity := s.next(60)
	d, a := disk.New(capacity), newAbstract(capacity)
	for i := 0; len(s.rest) > 0; i++ {
		if got, want := s.step(d, a); got != want {
			t.Fatalf("step %d: %d, not %d", i, got, want)
		}
		alike(t, d, a)
	}
	d.Crash(disk.Plan{})
	a.crash(disk.Plan{})
	alike(t, d, a)
}

func TestAsTheAbstractDisk(t *testing.T) {
	r := rand.New(rand.NewSource(4))
	for range 3000 {
		b := make([]byte, 20+r.Intn(400))
		r.Read(b)
		play(t, b)
	}
}

func FuzzDisk(f *testing.F) {
	f.Add([]byte{})
	r := rand.New(rand.NewSource(5))
	for range 20 {
		b := make([]byte, 300)
		r.Read(b)
		f.Add(b)
	}
	f.Fuzz(func(t *testing.T, b []byte) { play(t, b[:min(len(b), 600)]) })
}
