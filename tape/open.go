package tape

import (
	"reveille/api"
	"reveille/crc"
	"reveille/disk"
	"reveille/rec"
	"reveille/seg"
)

// Open is a disk's tape.
func Open(d *disk.Disk) (*Tape, api.Errno) {
	r, e := seg.Open(d, head, api.Segment)
	if e != api.OK {
		return nil, e
	}
	t := &Tape{Row: r, disk: d, sums: crc.New(), sizes: map[int]int{}}
	end, e := t.gather()
	if e != api.OK { // what can't be read isn't cut off
		return nil, e
	}
	if e := t.Cut(end); e != api.OK {
		return nil, e
	}
	if e := t.Sync(); e != api.OK {
		return nil, e
	}
	return t, api.OK
}

// gather takes in the records, segment by segment, and tells where they end.
func (t *Tape) gather() (int, api.Errno) {
	at := t.Begin()
	for at < t.End() {
		s, e := t.Row.Read(at, t.Left(at))
		if e != api.OK {
			return 0, e
		}
		n := t.take(at, s)
		at += n
		if n < len(s) {
			break
		}
	}
	return at, api.OK
}

// take takes in the records of a segment's bytes, and tells how many of these they have.
func (t *Tape) take(place int, s string) int {
	at := 0
	for at < len(s) {
		m, n, e := rec.Get(t.sums, s[at:])
		if e != api.OK || !mayLeave(api.Segment-at-n) {
			break
		}
		if m.Kind != api.Filler {
			t.note(place+at, n, m)
		}
		at += n
	}
	return at
}
