package disk_test

import (
	"math"
	"slices"
	"strings"
	"testing"

	"reveille/api"
	"reveille/disk"
)

// twoFiles is a disk with five writes that wait, in two files.
func twoFiles(t *testing.T) *disk.Disk {
	t.Helper()
	d := with(t, "f", "abcd", "g", "xyz")
	ok(t, d.Write("f", 0, "12"), d.Write("g", 3, "345"), d.Write("f", 4, "67"), d.Write("f", 6, "8"), d.Write("g", 1, "90"))
	has(t, d, "f", "12cd678")
	has(t, d, "g", "x90345")
	return d
}

func TestWhatACrashLeaves(t *testing.T) {
	const y, n = true, false
	for i, c := range []struct {
		keep []bool
		lack int
		f, g string
	}{
		{nil, 0, "abcd", "xyz"},
		{[]bool{}, 0, "abcd", "xyz"},
		{[]bool{n, n, n, n, n}, 0, "abcd", "xyz"},
		{[]bool{n, n, n, n, n}, 3, "abcd", "xyz"},
		{[]bool{y, y, y, y, y}, 0, "12cd678", "x90345"},
		{[]bool{y, y, y, y, y, y, n, y, y}, 0, "12cd678", "x90345"}, // more truths than writes
		{[]bool{n, n, n, n, n, y}, 0, "abcd", "xyz"},
		{[]bool{n, n, n, n, n, y}, 1, "abcd", "xyz"},
		{[]bool{y}, 0, "12cd", "xyz"}, // fewer
		{[]bool{y, y}, 0, "12cd", "xyz345"},
		{[]bool{y, y, y}, 0, "12cd67", "xyz345"},
		{[]bool{n, y}, 0, "abcd", "xyz345"},
		{[]bool{n, n, n, n, y}, 0, "abcd", "x90"},
		{[]bool{n, y, n, n, y}, 0, "abcd", "x90345"},
		{[]bool{n, n, y}, 0, "abcd67", "xyz"},
		{[]bool{n, n, n, y}, 0, "abcd\x00\x008", "xyz"}, // noughts between
		{[]bool{y, n, n, y, y}, 0, "12cd\x00\x008", "x90"},
		{[]bool{y, y}, 1, "12cd", "xyz34"},
		{[]bool{y, y}, 2, "12cd", "xyz3"},
		{[]bool{y, y}, 3, "12cd", "xyz"}, // all of it, and the one ahead of it is whole
		{[]bool{y, y}, 4, "12cd", "xyz"},
		{[]bool{y, y}, math.MaxInt, "12cd", "xyz"},
		{[]bool{y, y}, -1, "12cd", "xyz345"},
		{[]bool{y, y}, math.MinInt, "12cd", "xyz345"},
		{[]bool{y}, 1, "1bcd", "xyz"},
		{[]bool{y, y, n, n, n}, 1, "12cd", "xyz34"}, // the last one that is done, not the last of all
		{[]bool{n, n, n, y}, 1, "abcd", "xyz"},      // one that lacks all leaves no noughts either
		{[]bool{n, n, n, y}, 9, "abcd", "xyz"},
		{[]bool{y, n, n, y, n, y}, 1, "12cd", "xyz"},
		{[]bool{y, y, y, y, y}, 1, "12cd678", "x9z345"},
		{[]bool{y, y, y, y, y}, 2, "12cd678", "xyz345"},
	} {
		d := twoFiles(t)
		d.Crash(disk.Plan{Keep: c.keep, Lack: c.lack})
		f, _ := d.All("f")
		g, _ := d.All("g")
		if f != c.f || g != c.g {
			t.Errorf("row %d: %q and %q, not %q and %q", i, f, g, c.f, c.g)
		}
		if d.Waits() != 0 || d.Size() != len(c.f)+len(c.g) || d.Room() != 1000-d.Size() || d.Down() {
			t.Errorf("row %d: waits %d, size %d, room %d, down %t", i, d.Waits(), d.Size(), d.Room(), d.Down())
		}
		d.Crash(all(9)) // nothing waits any more
		has(t, d, "f", c.f)
		has(t, d, "g", c.g)
	}
}

func TestWritesOverOneAnother(t *testing.T) {
	for i, c := range []struct {
		keep []bool
		lack int
		want string
	}{
		{[]bool{true, true, true}, 0, "aCCB"}, {[]bool{true, true}, 0, "aBBB"}, {[]bool{true, false, true}, 0, "aCCA"}, {[]bool{false, true, true}, 0, "\x00CCB"},
		{[]bool{true, true, true}, 1, "aCBB"}, {[]bool{true, true, true}, 2, "aBBB"},
	} {
		d := disk.New(100)
		ok(t, d.Create("f"), d.Write("f", 0, "aAAA"), d.Write("f", 1, "BBB"), d.Write("f", 1, "CC"))
		d.Crash(disk.Plan{Keep: c.keep, Lack: c.lack})
		if s, _ := d.All("f"); s != c.want {
			t.Errorf("row %d: %q, not %q", i, s, c.want)
		}
	}
}

// TestWhatWasSynced: no plan changes it, nor the files themselves.
func TestWhatWasSynced(t *testing.T) {
	d := with(t, "a", "one", "b", "", "c", "three")
	ok(t, d.Create("new"), d.Rename("c", "d"), d.Cut("d", 2), d.Write("a", 0, "ONE"), d.Sync("a"), d.Write("b", 0, "waits"), d.Delete("b"))
	was := with(t, "a", "ONE", "new", "", "d", "th")
	for n := range 6 {
		for lack := -1; lack < 4; lack++ {
			p := all(n)
			p.Lack = lack
			d.Crash(p)
			if !d.Same(was) {
				t.Fatalf("%v: %q", p, d.List(""))
			}
		}
	}
}

func TestASecondCrash(t *testing.T) {
	d := with(t, "f", "ab")
	ok(t, d.Write("f", 2, "cd"), d.Write("f", 4, "ef"))
	d.Crash(disk.Plan{Keep: []bool{true, true}, Lack: 1})
	has(t, d, "f", "abcde")
	ok(t, d.Write("f", 5, "FG"))
	d.Crash(disk.Plan{}) // what a crash left lasts
	has(t, d, "f", "abcde")
	ok(t, d.Write("f", 0, "X"), d.Write("f", 1, "Y"))
	d.Crash(disk.Plan{Keep: []bool{false, true}}) // counted from the first one that waits, not from the first one of all
	has(t, d, "f", "aYcde")
}

func TestFuses(t *testing.T) {
	for _, n := range []int{-1, math.MinInt, 0, 1, 2, 3, 7} {
		d := disk.New(100)
		ok(t, d.Create("f"))
		d.Fuse(n)
		if d.Down() {
			t.Errorf("of %d: it is down at once", n)
		}
		for i := range 10 {
			e := d.Write("f", d.Len("f"), "x")
			if burnt := n >= 0 && i >= n; burnt != (e == api.ErrDown) || d.Down() != burnt {
				t.Errorf("of %d: write %d: %d, down %t", n, i, e, d.Down())
			}
		}
		want := 10
		if n >= 0 {
			want = n
		}
		if d.Len("f") != want || d.Waits() != want || d.Size() != want {
			t.Errorf("of %d: %d bytes, %d wait", n, d.Len("f"), d.Waits())
		}
	}
}

func TestANewFuseForTheOld(t *testing.T) {
	d := with(t, "f", "")
	d.Fuse(1)
	ok(t, d.Sync())
	d.Fuse(2)
	ok(t, d.Sync(), d.Sync())
	d.Fuse(0)
	d.Fuse(-1)
	ok(t, d.Sync(), d.Sync(), d.Sync())
	d.Fuse(math.MaxInt)
	ok(t, d.Sync(), d.Sync())
	d.Fuse(0)
	if d.Sync() != api.ErrDown || !d.Down() {
		t.Error("it isn't down")
	}
}

// kinds are calls that change something, for files as in the test below.
var kinds = map[string]func(d *disk.Disk) api.Errno{
	"create":       func(d *disk.Disk) api.Errno { return d.Create("new") },
	"write":        func(d *disk.Disk) api.Errno { return d.Write("f", 4, "ef") },
	"empty write":  func(d *disk.Disk) api.Errno { return d.Write("f", 0, "") },
	"write over":   func(d *disk.Disk) api.Errno { return d.Write("f", 0, "A") },
	"sync":         func(d *disk.Disk) api.Errno { return d.Sync("f") },
	"sync two":     func(d *disk.Disk) api.Errno { return d.Sync("f", "g", "f") },
	"sync none":    func(d *disk.Disk) api.Errno { return d.Sync() },
	"cut":          func(d *disk.Disk) api.Errno { return d.Cut("f", 1) },
	"cut to all":   func(d *disk.Disk) api.Errno { return d.Cut("f", 4) },
	"rename":       func(d *disk.Disk) api.Errno { return d.Rename("f", "h") },
	"rename onto":  func(d *disk.Disk) api.Errno { return d.Rename("f", "g") },
	"rename to it": func(d *disk.Disk) api.Errno { return d.Rename("f", "f") },
	"delete":       func(d *disk.Disk) api.Errno { return d.Delete("f") },
	"delete two":   func(d *disk.Disk) api.Errno { return d.Delete("g", "f", "g") },
	"delete none":  func(d *disk.Disk) api.Errno { return d.Delete() },
}

func fourBytes(t *testing.T) *disk.Disk {
	t.Helper()
	d := disk.New(10)
	ok(t, d.Create("f"), d.Create("g"), d.Write("f", 0, "ab"), d.Write("g", 0, "x"), d.Sync("f"), d.Write("f", 2, "cd"))
	return d
}

// TestWhichCallsCount: each kind of call, however many files it is on, is one; the one behind the fuse isn't done.
func TestWhichCallsCount(t *testing.T) {
	for kind, call := range kinds {
		d := fourBytes(t)
		d.Fuse(1)
		ok(t, call(d))
		if d.Down() {
			t.Errorf("%s: it counts twice", kind)
		}
		if d.Sync() != api.ErrDown || !d.Down() {
			t.Errorf("%s: it doesn't count", kind)
		}
		d = fourBytes(t)
		d.Fuse(0)
		if e := call(d); e != api.ErrDown || !d.Down() {
			t.Errorf("%s behind the fuse: %d", kind, e)
		}
		if !d.Same(fourBytes(t)) || d.Waits() != 2 || d.Size() != 5 || d.Room() != 5 {
			t.Errorf("%s behind the fuse: it was done", kind)
		}
		d.Crash(all(2))
		if !d.Same(fourBytes(t)) {
			t.Errorf("%s behind the fuse: it was done", kind)
		}
	}
}

func TestWhichCallsDoNotCount(t *testing.T) {
	d := fourBytes(t)
	d.Fuse(0)
	for i, c := range []struct{ e, want api.Errno }{
		{d.Create("f"), api.ErrThere}, {d.Write("none", 0, "a"), api.ErrNone}, {d.Write("f", 5, ""), api.ErrRange}, {d.Write("f", -1, "a"), api.ErrRange},
		{d.Write("f", 4, "123456"), api.ErrFull}, {d.Sync("none"), api.ErrNone}, {d.Sync("f", "none"), api.ErrNone}, {d.Cut("f", 5), api.ErrRange}, {d.Cut("f", -1), api.ErrRange},
		{d.Cut("none", 0), api.ErrNone}, {d.Rename("none", "f"), api.ErrNone}, {d.Rename("none", "none"), api.ErrNone}, {d.Delete("none"), api.ErrNone}, {d.Delete("f", "none"), api.ErrNone},
	} {
		if c.e != c.want {
			t.Errorf("call %d: %d, not %d", i, c.e, c.want)
		}
	}
	if _, e := d.Read("f", 0, 4); e != api.OK {
		t.Errorf("%d", e)
	}
	if _, e := d.Read("f", 0, 5); e != api.ErrRange {
		t.Errorf("%d", e)
	}
	if _, e := d.All("f"); e != api.OK {
		t.Errorf("%d", e)
	}
	d.List("")
	d.Same(d)
	if d.Len("f") != 4 || d.Size() != 5 || d.Room() != 5 || d.Waits() != 2 || d.Down() {
		t.Error("something changed, or it is down")
	}
}

// TestWhileItIsDown: all calls tell that, ahead of all else; the looks go on.
func TestWhileItIsDown(t *testing.T) {
	d := fourBytes(t)
	d.Fuse(0)
	if d.Sync("f") != api.ErrDown {
		t.Fatal("it isn't down")
	}
	for _, n := range []int{-1, 0, 9} { // a fuse brings it not up again
		d.Fuse(n)
		for kind, call := range kinds {
			if e := call(d); e != api.ErrDown {
				t.Errorf("%s: %d", kind, e)
			}
		}
		for i, e := range []api.Errno{d.Create("f"), d.Write("none", 0, "a"), d.Write("f", -1, "a"), d.Write("f", 0, strings.Repeat("a", 99)), d.Sync("none"), d.Cut("f", -1), d.Rename("none", "f"), d.Delete("none")} {
			if e != api.ErrDown {
				t.Errorf("call %d: %d", i, e)
			}
		}
		for _, name := range []string{"f", "none"} {
			if s, e := d.Read(name, 0, 1); s != "" || e != api.ErrDown {
				t.Errorf("%q, %d", s, e)
			}
			if s, e := d.All(name); s != "" || e != api.ErrDown {
				t.Errorf("%q, %d", s, e)
			}
		}
	}
	if !slices.Equal(d.List(""), []string{"f", "g"}) || d.Len("f") != 4 || d.Len("none") != 0 || d.Size() != 5 || d.Room() != 5 || d.Waits() != 2 || !d.Down() || !d.Same(fourBytes(t)) {
		t.Error("a look tells something else")
	}
	d.Fuse(0) // nor is it there any more behind the crash
	d.Crash(disk.Plan{Keep: []bool{false, true}, Lack: 1})
	if d.Down() {
		t.Error("it is down")
	}
	has(t, d, "f", "abc")
	has(t, d, "g", "")
	ok(t, d.Write("f", 3, "d"), d.Sync("f"), d.Delete("g"))
}

func TestNoFuseBehindACrash(t *testing.T) {
	d := with(t, "f", "")
	d.Fuse(1)
	d.Crash(disk.Plan{})
	ok(t, d.Write("f", 0, "a"), d.Write("f", 1, "b"), d.Sync("f"))
}
