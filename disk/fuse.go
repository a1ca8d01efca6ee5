package disk

import "reveille/api"

// fuse lets a disk go down; its zero value is none.
type fuse struct {
	lit, down bool
	left      int // how many calls are still done
}

// light sets a new fuse in the old one's stead; what is down stays so.
func (f *fuse) light(n int) { f.lit, f.left = n >= 0, n }

// burn is asked last of all, by a call that nothing else speaks against: only such calls count.
func (f *fuse) burn() api.Errno {
	if !f.lit {
		return api.OK
	}
	if f.left == 0 {
		f.down = true
		return api.ErrDown
	}
	f.left--
	return api.OK
}
