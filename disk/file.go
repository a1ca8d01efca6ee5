package disk

import (
	"cmp"
	"slices"
)

// file has its bytes beside its image, so that no read has to do the writes that wait.
type file struct {
	image, bytes []byte
	writes       []write
}

// write waits; its turn tells the order on the whole disk, whatever its file is called by then.
type write struct {
	turn, at int
	s        string
}

// waiting is a write, and the file that it is to go to.
type waiting struct {
	write
	to *file
}

func (f *file) add(w write) {
	f.bytes = put(f.bytes, w.at, w.s)
	f.writes = append(f.writes, w)
}

// sync does the writes that wait, which are often far fewer bytes than the file has.
func (f *file) sync() {
	for _, w := range f.writes {
		f.image = put(f.image, w.at, w.s)
	}
	f.writes = nil
}

// cut is for a file that was synced: its image is as long as its bytes.
func (f *file) cut(n int) {
	f.image, f.bytes = f.image[:n], f.bytes[:n]
}

// lose leaves the image alone.
func (f *file) lose() {
	if len(f.writes) > 0 {
		f.bytes = append(f.bytes[:0], f.image...)
		f.writes = nil
	}
}

// waiting is all writes that wait, in their order.
func (d *Disk) waiting() []waiting {
	var l []waiting
	for _, f := range d.files {
		for _, w := range f.writes {
			l = append(l, waiting{write: w, to: f})
		}
	}
	slices.SortFunc(l, func(a, b waiting) int { return cmp.Compare(a.turn, b.turn) })
	return l
}

// kept is what a crash leaves of what waits.
func kept(l []waiting, p Plan) []waiting {
	var done []waiting
	for i := range min(len(l), len(p.Keep)) {
		if p.Keep[i] {
			done = append(done, l[i])
		}
	}
	if len(done) > 0 {
		last := &done[len(done)-1]
		last.s = last.s[:len(last.s)-within(p.Lack, len(last.s))]
	}
	return done
}

// put writes s into b, with noughts between, if it is beyond the end; no bytes leave no noughts either.
func put(b []byte, at int, s string) []byte {
	if s == "" {
		return b
	}
	if end, old := at+len(s), len(b); end > old {
		b = slices.Grow(b, end-old)[:end]
		clear(b[old:]) // what was cut off may still stand there
	}
	copy(b[at:], s)
	return b
}
