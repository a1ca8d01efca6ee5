package cq

import (
	"strconv"

	"reveille/api"
	"reveille/entry"
	"reveille/seg"
)

const segment = 10 * entry.Size

// line is a queue's entries. Its row begins at place 0 wherever the queue begins: not every position would have a place that can be named.
type line struct {
	*seg.Row // nil, till there is an entry
	base     int
	least    int
}

// head is of the names of a queue's segments.
func (x id) head() string { return head + x.topic + "." + strconv.Itoa(x.queue) + "-" }

// first is the least position.
func (l *line) first() int {
	if l == nil {
		return 0
	}
	return l.least
}

// next is the position behind the last entry.
func (l *line) next() int {
	if l == nil {
		return 0
	}
	return l.base + l.End()/entry.Size
}

// place is where in the row a position lies.
func (l *line) place(at int) int { return (at - l.base) * entry.Size }

// entry is that of a position from the least to below the next one.
func (l *line) entry(at int) (entry.Place, api.Errno) {
	if l.Down() { // asked first: where a trim was cut short, the row lacks what is still told to be there
		return entry.Place{}, api.ErrDown
	}
	s, e := l.Read(l.place(at), entry.Size)
	if e != api.OK {
		return entry.Place{}, e
	}
	p, _ := entry.GetPlace(s) // so many bytes are one
	return p, api.OK
}

// seek is the position of the first entry of which something is so; next, if there is none.
func (l *line) seek(is func(entry.Place) bool) (int, api.Errno) {
	at := l.first()
	for at < l.next() {
		p, e := l.entry(at)
		if e != api.OK {
			return 0, e
		}
		if is(p) {
			break
		}
		at++
	}
	return at, api.OK
}

// drop drops the segments that have no entry from a position on, but not the last one.
func (l *line) drop(least int) api.Errno {
	for second := l.Begin() + segment; second <= l.place(least) && second < l.End(); second = l.Begin() + segment {
		if _, e := l.Drop(); e != api.OK {
			return e
		}
	}
	return api.OK
}
