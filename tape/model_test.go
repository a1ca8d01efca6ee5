package tape_test

import (
	"math/rand"
	"slices"
	"strconv"
	"strings"
	"testing"

	"reveille/api"
	"reveille/disk"
	"reveille/rec"
	"reveille/seg"
	"reveille/tape"
)

// plain is a tape as the chapter's words say it: a row, and a list of the records in it.
type plain struct {
	d   *disk.Disk
	row *seg.Row
	l   []told
}

func openPlain(d *disk.Disk) (*plain, api.Errno) {
	row, e := seg.Open(d, "tape-", 1024)
	if e != api.OK {
		return nil, e
	}
	p := &plain{d: d, row: row}
	if e := row.Cut(p.list()); e != api.OK {
		return nil, e
	}
	if e := row.Sync(); e != api.OK {
		return nil, e
	}
	return p, api.OK
}

// list lists the records, from the row's begin on, till there is none.
func (p *plain) list() int {
	at := p.row.Begin()
	for at < p.row.End() {
		bytes, _ := p.d.All(name(at / 1024 * 1024))
		m, n, e := rec.Get(sums, bytes[at%1024:])
		if e != api.OK {
			break
		}
		if left := 1024 - at%1024 - n; left == 1 || left == 2 {
			break
		}
		if m.Kind != api.Filler {
			p.l = append(p.l, told{at, m})
		}
		at += n
	}
	return at
}

// filler is how many bytes a filler takes ahead of so many.
func (p *plain) filler(n int) int {
	used := p.row.End() % 1024
	if left := 1024 - used - n; used == 0 || left == 0 || left > 2 {
		return 0
	}
	return 1024 - used
}

func (p *plain) cost(m api.Msg) int {
	bytes, e := rec.Put(sums, m)
	if e != api.OK || m.Kind == api.Filler {
		return 0
	}
	return len(bytes) + p.filler(len(bytes))
}

func (p *plain) append(m api.Msg) (int, api.Errno) {
	cost := p.cost(m)
	if cost == 0 {
		return 0, api.ErrArg
	}
	if p.d.Down() {
		return 0, api.ErrDown
	}
	if cost > p.d.Room() {
		return 0, api.ErrFull
	}
	bytes, _ := rec.Put(sums, m)
	if n := cost - len(bytes); n > 0 {
		if p.row.End()+n > 99999999 {
			return 0, api.ErrRange
		}
		if _, e := p.row.Append("\x5a" + string([]byte{byte(n / 256), byte(n % 256)}) + noughts(n-3)); e != api.OK {
			return 0, e
		}
	}
	id, e := p.row.Append(bytes)
	if e == api.OK {
		p.l = append(p.l, told{id, rec.Copy(m)})
	}
	return id, e
}

func (p *plain) read(id int) (api.Msg, api.Errno) {
	if id >= 0 && id < p.row.Begin() {
		return api.Msg{}, api.ErrTrim
	}
	for _, r := range p.l {
		if r.id == id && p.d.Down() {
			return api.Msg{}, api.ErrDown
		} else if r.id == id {
			return r.m, api.OK
		}
	}
	return api.Msg{}, api.ErrNone
}

func (p *plain) size(id int) int {
	for _, r := range p.l {
		if r.id == id {
			bytes, _ := rec.Put(sums, r.m)
			return len(bytes)
		}
	}
	return 0
}

func (p *plain) ids(from int) []int {
	var l []int
	for _, r := range p.l {
		if r.id >= from {
			l = append(l, r.id)
		}
	}
	return l
}

func (p *plain) drop() (int, api.Errno) {
	begin, e := p.row.Drop()
	for e == api.OK && len(p.l) > 0 && p.l[0].id < begin {
		p.l = p.l[1:]
	}
	return begin, e
}

func (p *plain) last() int {
	if len(p.l) == 0 {
		return 0
	}
	return p.l[len(p.l)-1].m.Born
}

// pair is a tape, and the plain one that it is held against, on another disk.
type pair struct {
	d, twin *disk.Disk
	x       *tape.Tape
	p       *plain
	rest    []byte // tells what is to be done next; of none that are left, noughts
}

func (x *pair) next(n int) int {
	if len(x.rest) == 0 {
		return 0
	}
	b := x.rest[0]
	x.rest = x.rest[1:]
	return int(b) % n
}

func newPair(t *testing.T, b []byte) *pair {
	x := &pair{rest: b}
	capacity := 2000 + 40*x.next(150)
	x.d, x.twin = disk.New(capacity), disk.New(capacity)
	if x.next(8) == 0 {
		x.both(func(d *disk.Disk) { d.Create(name(99999744 - 1024)) })
	}
	x.open(t)
	return x
}

func (x *pair) both(do func(d *disk.Disk)) {
	rest := x.rest
	do(x.d)
	x.rest = rest
	do(x.twin)
}

// open opens both anew; a fuse may go in it, then there was a crash.
func (x *pair) open(t *testing.T) {
	t.Helper()
	for {
		y, e := tape.Open(x.d)
		p, want := openPlain(x.twin)
		if e != want || (y == nil) != (p == nil) {
			t.Fatalf("Open: %d, not %d", e, want)
		}
		if y != nil {
			x.x, x.p = y, p
			return
		}
		x.crash()
	}
}

func (x *pair) crash() {
	plan := disk.Plan{Lack: x.next(60) - 4}
	for range x.next(x.d.Waits() + 2) {
		plan.Keep = append(plan.Keep, x.next(5) > 0)
	}
	x.both(func(d *disk.Disk) { d.Crash(plan) })
}

// msg is a record, often such a one that hardly anything is left of the segment, and now and then one that isn't right.
func (x *pair) msg() api.Msg {
	m := api.Msg{Kind: api.Message, Topic: "a", Born: x.next(100)}
	switch x.next(8) {
	case 0:
		return api.Msg{Kind: api.Cancel, Ref: x.next(256), Born: x.next(100)}
	case 1:
		inner, _ := rec.Put(sums, m)
		m.Kind, m.Due, m.Ref, m.Body = api.Scheduled, x.next(256), x.next(256), strings.Repeat(inner, x.next(6))
	case 2:
		m.Kind, m.Topic, m.Tag, m.Retry, m.Keys = api.Delivery, "%retry%g", "tag", x.next(5), []string{"k1", "k2"}[:x.next(3)]
	case 3:
		wrongs := []api.Msg{{}, filler(40), filler(2), {Kind: 5}, {Kind: api.Cancel, Tag: "x"}, {Kind: api.Message}, {Kind: api.Message, Topic: "a", Queue: 3}}
		return wrongs[x.next(len(wrongs))]
	case 4, 5:
		m.Body = strings.Repeat("x", x.next(201))
	default:
		n := 1024 - x.x.End()%1024 - least + x.next(6) - 4 // -1 to 4 bytes are left, if the body isn't too long
		m.Body = strings.Repeat("y", min(max(n, 0), 200))
	}
	return m
}

// strew spoils a file, or puts another one beside the tape's.
func (x *pair) strew(t *testing.T) {
	switch x.next(4) {
	case 0:
		x.both(func(d *disk.Disk) {
			f := name(1024*x.next(6) + x.next(5)/4)
			s := strings.Repeat(string(put(t, filler(3+x.next(40)))), 1+x.next(40))
			d.Create(f)
			if d.Len(f) == 0 {
				d.Write(f, 0, s)
			}
		})
	case 1:
		x.both(func(d *disk.Disk) { d.Create("tape-" + strconv.Itoa(x.next(256))) })
	default:
		x.both(func(d *disk.Disk) {
			if l := d.List("tape-"); len(l) > 0 {
				f := l[x.next(len(l))]
				b := [...]string{"", "x", "\x00", "\xa5", "\x5a", "\x5a\x00\x03", "\x5a\x00\x04\x00", put(t, sized(40)), put(t, sized(60))}[x.next(9)]
				at := d.Len(f) - x.next(256)*x.next(5)
				d.Write(f, max(at, 0), b)
				if x.next(2) == 0 {
					d.Sync(f)
				}
			}
		})
	}
}

// step does one thing with both; what the two told must be one.
func (x *pair) step(t *testing.T) {
	t.Helper()
	switch x.next(16) {
	default:
		m := x.msg()
		cost, want := x.x.Cost(m), x.p.cost(m)
		if cost != want {
			t.Fatalf("Cost of %+v: %d, not %d", m, cost, want)
		}
		id, e := x.x.Append(m)
		if want, wrong := x.p.append(m); id != want || e != wrong {
			t.Fatalf("Append of %+v: %d, %d, not %d, %d", m, id, e, want, wrong)
		}
	case 9, 10:
		if e, want := x.x.Sync(), x.p.row.Sync(); e != want {
			t.Fatalf("Sync: %d, not %d", e, want)
		}
	case 11:
		at, e := x.x.Drop()
		if want, wrong := x.p.drop(); at != want || e != wrong {
			t.Fatalf("Drop: %d, %d, not %d, %d", at, e, want, wrong)
		}
	case 12:
		n := x.next(8)
		x.both(func(d *disk.Disk) { d.Fuse(n) })
	case 13:
		x.crash()
		x.open(t)
	case 14:
		x.open(t)
	case 15:
		for range x.next(3) {
			x.strew(t)
		}
		x.open(t)
	}
	if x.d.Down() {
		x.alike(t) // what is still told then
		if x.next(3) > 0 {
			x.crash()
			x.open(t)
		}
	}
}

// alike fails, if one look tells another thing than that which it is held against.
func (x *pair) alike(t *testing.T) {
	t.Helper()
	if !x.d.Same(x.twin) || x.d.Waits() != x.twin.Waits() || x.d.Down() != x.twin.Down() {
		t.Fatalf("the files %q, %d wait, down %t, not %q, %d, %t", x.d.List(""), x.d.Waits(), x.d.Down(), x.twin.List(""), x.twin.Waits(), x.twin.Down())
	}
	y, p := x.x, x.p
	if y.Begin() != p.row.Begin() || y.End() != p.row.End() || y.Synced() != p.row.Synced() || y.Last() != p.last() {
		t.Fatalf("from %d to %d, synced up to %d, last %d, not %d, %d, %d, %d", y.Begin(), y.End(), y.Synced(), y.Last(), p.row.Begin(), p.row.End(), p.row.Synced(), p.last())
	}
	places := append(p.ids(0), -1, 0, 1, y.Begin()-1, y.Begin(), y.End()-1, y.End(), y.End()+1, y.Begin()+8*x.next(256))
	for _, at := range places {
		for _, at := range []int{at, at + 1} {
			m, e := y.Read(at)
			if want, wrong := p.read(at); e != wrong || !rec.Same(m, want) {
				t.Fatalf("Read of %d: %+v, %d, not %+v, %d", at, m, e, want, wrong)
			}
			if n := y.Size(at); n != p.size(at) {
				t.Fatalf("Size of %d: %d, not %d", at, n, p.size(at))
			}
			l := p.ids(at)
			if got := y.Ids(at); !slices.Equal(got, l) {
				t.Fatalf("Ids of %d: %v, not %v", at, got, l)
			}
			id, found := y.Next(at)
			if found != (len(l) > 0) || found && id != l[0] || !found && id != 0 {
				t.Fatalf("Next of %d: %d, %t, not the first of %v", at, id, found, l)
			}
		}
	}
}

// play plays a script through; in the end a crash shows what was synced, and that to open twice is as once.
func play(t *testing.T, b []byte) {
	x := newPair(t, slices.Clone(b))
	for len(x.rest) > 0 {
		x.step(t)
		x.alike(t)
	}
	for range 2 {
		x.crash()
		x.open(t)
		x.alike(t)
	}
}

func TestAsThePlainTape(t *testing.T) {
	r := rand.New(rand.NewSource(8))
	for range 1000 {
		b := make([]byte, 20+r.Intn(500))
		r.Read(b)
		play(t, b)
	}
}

func FuzzTape(f *testing.F) {
	f.Add([]byte{})
	r := rand.New(rand.NewSource(9))
	for range 20 {
		b := make([]byte, 300)
		r.Read(b)
		f.Add(b)
	}
	f.Fuzz(func(t *testing.T, b []byte) { play(t, b[:min(len(b), 600)]) })
}
