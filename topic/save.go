package topic

import (
	"reveille/api"
	"reveille/crc"
	"reveille/disk"
)

const tail = ".new" // of the name that a file has till it is whole

// Save saves a text.
func Save(d *disk.Disk, name, text string) api.Errno {
	if d == nil {
		return api.ErrArg
	}
	fresh := name + tail
	e := first(
		func() api.Errno { return remove(d, fresh) },
		func() api.Errno { return d.Create(fresh) },
		func() api.Errno { return d.Write(fresh, 0, crc.New().Seal(text)) },
		func() api.Errno { return d.Sync(fresh) }, // ahead of the rename, which lasts at once
		func() api.Errno { return d.Rename(fresh, name) },
	)
	if e == api.OK {
		return api.OK
	}
	if down := remove(d, fresh); down != api.OK { // maybe not till now: but where something is left of what is new no other error may be told
		return down
	}
	return e
}

// Load is what was saved.
func Load(d *disk.Disk, name string) (string, bool, api.Errno) {
	s, e := d.All(name)
	if e == api.ErrNone {
		return "", false, api.OK
	}
	if e != api.OK {
		return "", false, e
	}
	text, ok := crc.New().Open(s)
	if !ok {
		return "", false, api.ErrForm
	}
	return text, true, api.OK
}

// first makes one call behind the other, up to the first error.
func first(l ...func() api.Errno) api.Errno {
	for _, call := range l {
		if e := call(); e != api.OK {
			return e
		}
	}
	return api.OK
}

// remove deletes a file, if it is there.
func remove(d *disk.Disk, name string) api.Errno {
	if e := d.Delete(name); e != api.ErrNone {
		return e
	}
	return api.OK
}
