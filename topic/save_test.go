package topic_test

import (
	"hash/crc32"
	"slices"
	"strings"
	"testing"

	"reveille/api"
	"reveille/disk"
	"reveille/topic"
)

// The tests of this file hold promises P13.1, for Save and Load, and P13.2.

// sealed is a text behind its sum, as chapter 2 says it.
func sealed(s string) string {
	n := crc32.ChecksumIEEE([]byte(s))
	return string([]byte{byte(n >> 24), byte(n >> 16), byte(n >> 8), byte(n)}) + s
}

// with is a disk with files, synced: of name, bytes, name, bytes ..
func with(t *testing.T, capacity int, l ...string) *disk.Disk {
	t.Helper()
	d := disk.New(capacity)
	for i := 0; i < len(l); i += 2 {
		e, w, s := d.Create(l[i]), d.Write(l[i], 0, l[i+1]), d.Sync(l[i])
		if e != api.OK || w != api.OK || s != api.OK {
			t.Fatalf("%q: %d, %d, %d", l[i], e, w, s)
		}
	}
	return d
}

// holds fails, if a disk's files, or the bytes in them, are others than these.
func holds(t *testing.T, d *disk.Disk, l ...string) {
	t.Helper()
	if !d.Same(with(t, 1<<24, l...)) {
		for _, f := range d.List("") {
			s, e := d.All(f)
			t.Logf("%q: %q, %d", f, s, e)
		}
		t.Fatalf("it doesn't hold %q", l)
	}
}

func save(t *testing.T, d *disk.Disk, name, text string) {
	t.Helper()
	if e := topic.Save(d, name, text); e != api.OK {
		t.Fatalf("Save of %q, under %q: %d", text, name, e)
	}
}

// loads fails, if another text is there, or none, or it isn't told.
func loads(t *testing.T, d *disk.Disk, name, text string) {
	t.Helper()
	if s, there, e := topic.Load(d, name); s != text || !there || e != api.OK {
		t.Fatalf("Load of %q: %q, %t, %d, not %q", name, s, there, e, text)
	}
}

// tellsNothing fails, if something is told, or another error.
func tellsNothing(t *testing.T, d *disk.Disk, name string, want api.Errno) {
	t.Helper()
	if s, there, e := topic.Load(d, name); s != "" || there || e != want {
		t.Fatalf("Load of %q: %q, %t, %d, not %d", name, s, there, e, want)
	}
}

var texts = []string{"", "x", "abc", "\x00", "\x00\x00\x00\x00", "\xff\xfe", "a\nb", sealed("x"), strings.Repeat("long ", 1000)}

func TestWhatIsSavedIsLoaded(t *testing.T) {
	for _, name := range []string{"topics", "base", "groups", "", ".new", "f.new", "\xff", "a b"} {
		for _, text := range texts {
			d := with(t, 10000)
			tellsNothing(t, d, name, api.OK)
			save(t, d, name, text)
			loads(t, d, name, text)
			loads(t, d, name, text)
			holds(t, d, name, sealed(text))
		}
	}
}

func TestTheBytesOfAText(t *testing.T) {
	d := with(t, 100)
	save(t, d, "f", "123456789")
	holds(t, d, "f", "\xcb\xf4\x39\x26123456789")
	save(t, d, "f", "")
	holds(t, d, "f", "\x00\x00\x00\x00")
}

// TestTheNewOneForTheOld: whichever is longer.
func TestTheNewOneForTheOld(t *testing.T) {
	for _, old := range texts {
		for _, text := range texts {
			d := with(t, 20000, "other", "stays")
			save(t, d, "f", old)
			save(t, d, "f", text)
			loads(t, d, "f", text)
			holds(t, d, "other", "stays", "f", sealed(text))
		}
	}
}

func TestTextsUnderUnlikeNames(t *testing.T) {
	others := []string{"f", "1", "f.ne", "2", "f.new1", "3", "f.new.new", "4", "g.new", "5", ".new", "6", "F.new", "7"}
	d := with(t, 1000, others...)
	save(t, d, "a", "of a")
	save(t, d, "b", "of b")
	save(t, d, "f", "of f")
	save(t, d, "a", "again")
	for name, text := range map[string]string{"a": "again", "b": "of b", "f": "of f"} {
		loads(t, d, name, text)
	}
	holds(t, d, append([]string{"a", sealed("again"), "b", sealed("of b"), "f", sealed("of f")}, others[2:]...)...)
	save(t, d, "f.new", "of another name")
	save(t, d, "f", "once more") // to whose new file that name belongs
	tellsNothing(t, d, "f.new", api.OK)
	loads(t, d, "f", "once more")
}

// TestWhatWasLeft: the new file of a Save that ended amid it is deleted, whatever is in it, and whatever waits.
func TestWhatWasLeft(t *testing.T) {
	for _, left := range []string{"", "half", sealed("whole"), strings.Repeat("longer than what is saved", 9)} {
		for _, waits := range []string{"", "it waits", strings.Repeat("w", 300)} {
			d := with(t, 1000, "f", sealed("old"), "f.new", left)
			if e := d.Write("f.new", len(left), waits); e != api.OK {
				t.Fatal(e)
			}
			loads(t, d, "f", "old")
			save(t, d, "f", "text")
			loads(t, d, "f", "text")
			holds(t, d, "f", sealed("text"))
			if d.Waits() != 0 {
				t.Fatalf("%d writes wait", d.Waits())
			}
		}
	}
}

func TestAFileThatIsNewIsNotLoaded(t *testing.T) {
	d := with(t, 1000, "f.new", sealed("text"))
	tellsNothing(t, d, "f", api.OK)
	loads(t, d, "f.new", "text")
	holds(t, d, "f.new", sealed("text"))
}

func TestLoadOfNoDisk(t *testing.T) {
	for _, name := range []string{"", "f"} {
		if s, there, e := topic.Load(nil, name); s != "" || there || e != api.ErrArg {
			t.Errorf("Load: %q, %t, %d", s, there, e)
		}
		for _, text := range texts {
			if e := topic.Save(nil, name, text); e != api.ErrArg {
				t.Errorf("Save: %d", e)
			}
		}
	}
}

// TestADiskThatNewDidNotMake: it has no room.
func TestADiskThatNewDidNotMake(t *testing.T) {
	d := &disk.Disk{}
	tellsNothing(t, d, "f", api.OK)
	if e := topic.Save(d, "f", ""); e != api.ErrFull || len(d.List("")) != 0 {
		t.Errorf("Save: %d, and %q", e, d.List(""))
	}
}

func TestWhatIsNotSealed(t *testing.T) {
	whole := sealed("some text")
	spoilt := []string{"", "\x00", "\x00\x00\x00", "\x00\x00\x00\x01", "some text", whole[:len(whole)-1], whole + "\x00", "\x00" + whole, whole[1:], whole[4:], whole + whole, strings.Repeat("\xff", 50), strings.Repeat("\x00", 3)}
	for i := range len(whole) {
		for _, turned := range []byte{1, 0x80, 0xff} {
			b := []byte(whole)
			b[i] ^= turned
			spoilt = append(spoilt, string(b))
		}
	}
	for _, s := range spoilt {
		d := with(t, 1000, "f", s)
		d.Fuse(0)
		tellsNothing(t, d, "f", api.ErrForm)
		d.Fuse(-1)
		holds(t, d, "f", s)
		save(t, d, "f", "text") // which minds it not
		loads(t, d, "f", "text")
	}
}

// TestLoadIsNoCall: it changes nothing, and burns no fuse.
func TestLoadIsNoCall(t *testing.T) {
	l := []string{"f", sealed("text"), "f.new", "left", "g", "none"}
	d := with(t, 1000, l...)
	d.Fuse(0)
	loads(t, d, "f", "text")
	tellsNothing(t, d, "g", api.ErrForm)
	tellsNothing(t, d, "h", api.OK)
	if d.Down() {
		t.Error("it is down")
	}
	holds(t, d, l...)
}

func TestADiskThatIsDown(t *testing.T) {
	l := []string{"f", sealed("text"), "f.new", "left", "g", "none"}
	d := with(t, 1000, l...)
	d.Fuse(0)
	if d.Sync() != api.ErrDown {
		t.Fatal("it isn't down")
	}
	for _, name := range []string{"f", "g", "h", ""} { // whether it is there, sealed, or not
		tellsNothing(t, d, name, api.ErrDown)
		for _, text := range []string{"", "text", strings.Repeat("x", 2000)} {
			if e := topic.Save(d, name, text); e != api.ErrDown {
				t.Errorf("Save: %d", e)
			}
		}
	}
	d.Crash(disk.Plan{})
	holds(t, d, l...)
}

// stage is a disk ahead of a Save of "text" under "f", and what each of its calls leaves.
type stage struct {
	there []string
	left  [][]string // behind so many calls
}

// stages are those with and without an old text, and with and without what was left of a Save.
func stages() []stage {
	var l []stage
	for _, old := range [][]string{nil, {"f", sealed("old")}} {
		for _, left := range [][]string{nil, {"f.new", ""}, {"f.new", sealed("left")}} {
			files := func(l ...string) []string { return append(append([]string{"other", "stays"}, old...), l...) }
			s := stage{there: files(left...), left: [][]string{files(left...)}}
			if len(left) > 0 {
				s.left = append(s.left, files())
			}
			s.left = append(s.left, files("f.new", ""), files("f.new", sealed("text")), files("f.new", sealed("text")), []string{"other", "stays", "f", sealed("text")})
			l = append(l, s)
		}
	}
	return l
}

// TestCallsOfSave: which they are, and in which order, is told by what the disk has where it goes down at the next one.
func TestCallsOfSave(t *testing.T) {
	for _, s := range stages() {
		calls := len(s.left) - 1
		for fuse, left := range s.left {
			d := with(t, 1000, s.there...)
			d.Fuse(fuse)
			e := topic.Save(d, "f", "text")
			if down := fuse < calls; down != (e == api.ErrDown) || down != d.Down() || !down && e != api.OK {
				t.Fatalf("%q, fuse %d: %d", s.there, fuse, e)
			}
			if !d.Same(with(t, 1000, left...)) {
				t.Fatalf("%q, fuse %d: it doesn't hold %q", s.there, fuse, left)
			}
			if want := btoi(fuse == calls-2); d.Waits() != want { // the write waits till the sync, and no longer
				t.Fatalf("%q, fuse %d: %d writes wait", s.there, fuse, d.Waits())
			}
			d.Crash(disk.Plan{})
			if fuse == calls-2 {
				left = append(slices.Clone(left[:len(left)-1]), "")
			}
			holds(t, d, left...)
		}
	}
}

func btoi(b bool) int {
	if b {
		return 1
	}
	return 0
}

// plans are what crashes may leave of so many writes.
func plans(waits int) []disk.Plan {
	var l []disk.Plan
	for kept := range 1 << waits {
		p := disk.Plan{}
		for i := range waits {
			p.Keep = append(p.Keep, kept>>i&1 == 1)
		}
		for _, p.Lack = range []int{0, 1, 3, 4, 7, 8, 99} {
			l = append(l, p)
		}
	}
	return l
}

// TestTheOldOneOrTheNew holds P13.2: wherever the disk goes down in Save, and whatever the crash leaves.
func TestTheOldOneOrTheNew(t *testing.T) {
	for _, s := range stages() {
		old, had := "", slices.Contains(s.there, sealed("old"))
		if had {
			old = "old"
		}
		for fuse := range len(s.left) {
			for _, p := range plans(2) {
				d := with(t, 1000, s.there...)
				if e := d.Write("other", 5, " not"); e != api.OK { // a write ahead of it waits, too
					t.Fatal(e)
				}
				d.Fuse(fuse)
				e := topic.Save(d, "f", "text")
				d.Crash(p)
				if e == api.OK {
					loads(t, d, "f", "text")
				} else if had {
					loads(t, d, "f", old)
				} else {
					tellsNothing(t, d, "f", api.OK)
				}
				save(t, d, "f", "the next") // whatever was left
				d.Crash(disk.Plan{})
				loads(t, d, "f", "the next")
				if l := d.List("f"); !slices.Equal(l, []string{"f"}) {
					t.Fatalf("%q, fuse %d, %v: %q is left", s.there, fuse, p, l)
				}
			}
		}
	}
}

// TestWhatIsSavedLasts: what was told OK is behind any crash as it was told.
func TestWhatIsSavedLasts(t *testing.T) {
	for _, text := range texts {
		for _, p := range plans(3) {
			d := with(t, 20000, "f", sealed("old"), "f.new", "left")
			if e := d.Write("f.new", 0, "waits"); e != api.OK {
				t.Fatal(e)
			}
			if e := d.Write("f", 0, "waits"); e != api.OK {
				t.Fatal(e)
			}
			save(t, d, "f", text)
			if d.Waits() != 0 {
				t.Fatalf("%d writes wait", d.Waits())
			}
			d.Crash(p)
			loads(t, d, "f", text)
			holds(t, d, "f", sealed(text))
		}
	}
}

// TestOtherWritesWaitOn: Save syncs no file but its own.
func TestOtherWritesWaitOn(t *testing.T) {
	d := with(t, 1000, "a", "synced", "z", "synced")
	for _, name := range []string{"a", "z"} {
		if e := d.Write(name, 0, "WAITS"); e != api.OK {
			t.Fatal(e)
		}
	}
	save(t, d, "f", "text")
	if d.Waits() != 2 {
		t.Fatalf("%d writes wait", d.Waits())
	}
	d.Crash(disk.Plan{})
	holds(t, d, "a", "synced", "z", "synced", "f", sealed("text"))
}

// TestNoRoom: the old one and the new one must go in, side by side; what is left of another Save goes first, and is gone in any case. Else nothing changes.
func TestNoRoom(t *testing.T) {
	for _, c := range []struct {
		capacity int
		l        []string
		text     string
		want     api.Errno
	}{
		{0, nil, "", api.ErrFull}, {3, nil, "", api.ErrFull}, {4, nil, "", api.OK}, {7, nil, "text", api.ErrFull}, {8, nil, "text", api.OK}, {9, nil, "text", api.OK},
		{14, []string{"f", sealed("old")}, "text", api.ErrFull}, {15, []string{"f", sealed("old")}, "text", api.OK},
		{18, []string{"f", sealed("old"), "g", "333"}, "text", api.OK}, {17, []string{"f", sealed("old"), "g", "333"}, "text", api.ErrFull},
		{15, []string{"f", sealed("old"), "f.new", "12345678"}, "text", api.OK}, {15, []string{"f", sealed("old"), "f.new", ""}, "text", api.OK},
		{14, []string{"f", sealed("old"), "f.new", "1234567"}, "text", api.ErrFull}, {14, []string{"f", sealed("old"), "f.new", ""}, "text", api.ErrFull},
		{13, []string{"f.new", "1234567890123"}, "text and more", api.ErrFull}, {1 << 24, nil, strings.Repeat("x", 1<<24-3), api.ErrFull}, {1 << 24, nil, strings.Repeat("x", 1<<24-4), api.OK},
	} {
		d := with(t, c.capacity, c.l...)
		if e := topic.Save(d, "f", c.text); e != c.want {
			t.Fatalf("%d bytes, %q: Save of %d bytes: %d, not %d", c.capacity, c.l, len(c.text), e, c.want)
		}
		if c.want == api.OK {
			loads(t, d, "f", c.text)
			continue
		}
		left := c.l
		if i := slices.Index(c.l, "f.new"); i >= 0 {
			left = slices.Delete(slices.Clone(c.l), i, i+2)
		}
		holds(t, d, left...)
		if d.Waits() != 0 || d.Down() {
			t.Fatalf("%d writes wait, down %t", d.Waits(), d.Down())
		}
		d.Crash(disk.Plan{})
		holds(t, d, left...)
	}
}

// TestNoRoomOnADiskThatGoesDown: that it is full may be told only where nothing is left.
func TestNoRoomOnADiskThatGoesDown(t *testing.T) {
	for _, l := range [][]string{{"f", sealed("old")}, {"f", sealed("old"), "f.new", "left"}} {
		for fuse := range 6 {
			d := with(t, 14, l...)
			d.Fuse(fuse)
			e := topic.Save(d, "f", "text")
			if e != api.ErrFull && e != api.ErrDown || d.Down() != (e == api.ErrDown) {
				t.Fatalf("fuse %d: %d, down %t", fuse, e, d.Down())
			}
			if e == api.ErrFull && !slices.Equal(d.List(""), []string{"f"}) {
				t.Fatalf("fuse %d: %q is left", fuse, d.List(""))
			}
			if fuse < 2 != (e == api.ErrDown) && len(l) == 2 || fuse < 3 != (e == api.ErrDown) && len(l) == 4 {
				t.Fatalf("%q, fuse %d: %d", l, fuse, e)
			}
			d.Crash(disk.Plan{})
			loads(t, d, "f", "old")
		}
	}
}
