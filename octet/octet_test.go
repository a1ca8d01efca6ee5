package octet_test

import (
	"math"
	"slices"
	"strings"
	"testing"

	"reveille/api"
	"reveille/octet"
)

// All tests here hold promise P1.1: all are what the chapter says; what is written is read.

// wrote is what a writing call answers.
type wrote struct {
	s string
	e api.Errno
}

func num(n int, l ...int) wrote { s, e := octet.Num(n, l...); return wrote{s, e} }
func text(l ...string) wrote    { s, e := octet.Text(l...); return wrote{s, e} }
func list(l ...string) wrote    { s, e := octet.List(l...); return wrote{s, e} }

func wantWrote(s string) wrote  { return wrote{s, api.OK} }
func refused(e api.Errno) wrote { return wrote{"", e} }

func greatest(n int) int    { return 1<<(8*n) - 1 }
func long(n int) string     { return strings.Repeat("x", n) }
func many(n int) []string   { return slices.Repeat([]string{"y"}, n) }
func short(s string) string { return s[:min(len(s), 20)] }

func TestWriting(t *testing.T) {
	for i, c := range []struct{ got, want wrote }{
		{num(2, 258), wantWrote("\x01\x02")},
		{num(1, 0, 1, 255), wantWrote("\x00\x01\xff")},
		{num(3, 1, 65536), wantWrote("\x00\x00\x01\x01\x00\x00")},
		{num(7, 0x01020304050607), wantWrote("\x01\x02\x03\x04\x05\x06\x07")},
		{num(6, api.MaxNum), wantWrote("\x01\x00\x00\x00\x00\x00")},
		{num(4), wantWrote("")},
		{num(1, 7, 256), refused(api.ErrRange)},
		{num(1, 256, 7), refused(api.ErrRange)},
		{num(7, math.MaxInt), refused(api.ErrRange)},
		{num(7, math.MinInt), refused(api.ErrRange)},
		{text(), wantWrote("")},
		{text(""), wantWrote("\x00\x00")},
		{text("ab", "", "\x00\xff"), wantWrote("\x00\x02ab\x00\x00\x00\x02\x00\xff")},
		{text(long(258)), wantWrote("\x01\x02" + long(258))},
		{text("€"), wantWrote("\x00\x03€")},
		{list(), wantWrote("\x00")},
		{list(""), wantWrote("\x01\x00\x00")},
		{list("c", "de"), wantWrote("\x02\x00\x01c\x00\x02de")},
	} {
		if c.got != c.want {
			t.Errorf("row %d: %q %d, not %q %d", i, c.got.s, c.got.e, c.want.s, c.want.e)
		}
	}
}

func TestNumbersAtTheirEdges(t *testing.T) {
	for n := 1; n <= 7; n++ {
		if w := num(n, 0); w != wantWrote(strings.Repeat("\x00", n)) {
			t.Errorf("0 in %d: %q %d", n, w.s, w.e)
		}
		if w := num(n, greatest(n)); w != wantWrote(strings.Repeat("\xff", n)) {
			t.Errorf("the greatest in %d: %q %d", n, w.s, w.e)
		}
		for _, x := range []int{-1, math.MinInt, greatest(n) + 1, math.MaxInt} {
			if w := num(n, x); w != refused(api.ErrRange) {
				t.Errorf("%d in %d: %q %d", x, n, w.s, w.e)
			}
		}
	}
}

func TestNoSuchWidth(t *testing.T) {
	for _, n := range []int{math.MinInt, -1, 0, 8, 9, 64, math.MaxInt} {
		if num(n) != refused(api.ErrArg) || num(n, 1) != refused(api.ErrArg) {
			t.Errorf("width %d was taken", n)
		}
		if num(n, -1) != refused(api.ErrArg) {
			t.Errorf("width %d isn't told ahead of the number", n)
		}
		r := octet.New("12345678")
		if x := r.Num(n); x != 0 || r.Err() != api.ErrArg || r.Left() != 8 {
			t.Errorf("width %d: read %d, error %d, left %d", n, x, r.Err(), r.Left())
		}
		r = octet.New("")
		if r.Num(n); r.Err() != api.ErrArg {
			t.Errorf("width %d isn't told ahead of the want of bytes: %d", n, r.Err())
		}
	}
}

func TestTextsAtTheirEdges(t *testing.T) {
	if w := text(long(65535)); w != wantWrote("\xff\xff"+long(65535)) {
		t.Errorf("65535 bytes: %d", w.e)
	}
	if w := text(long(65536)); w != refused(api.ErrLong) {
		t.Errorf("65536 bytes: %q %d", short(w.s), w.e)
	}
	if w := text("a", long(65536), "b"); w != refused(api.ErrLong) {
		t.Errorf("65536 bytes among others: %q %d", short(w.s), w.e)
	}
	if w := text(long(65535), long(65535)); len(w.s) != 2*65537 || w.e != api.OK {
		t.Errorf("two of 65535 bytes: %d, %d", len(w.s), w.e)
	}
}

func TestListsAtTheirEdges(t *testing.T) {
	if w := list(many(255)...); w != wantWrote("\xff"+strings.Repeat("\x00\x01y", 255)) {
		t.Errorf("255 texts: %d", w.e)
	}
	if w := list(many(256)...); w != refused(api.ErrLong) {
		t.Errorf("256 texts: %q %d", short(w.s), w.e)
	}
	if w := list(long(65535)); w != wantWrote("\x01\xff\xff"+long(65535)) {
		t.Errorf("a text of 65535 bytes: %d", w.e)
	}
	if w := list("a", long(65536)); w != refused(api.ErrLong) {
		t.Errorf("a text of 65536 bytes: %q %d", short(w.s), w.e)
	}
}

func TestWhatIsWrittenIsRead(t *testing.T) {
	s := num(1, 255).s + text("ab", "").s + list("c", "", "de").s + num(7, greatest(7), 0).s +
		list().s + text(long(65535)).s + list(many(255)...).s + num(2, 258).s
	r := octet.New(s)
	if r.Left() != len(s) {
		t.Errorf("left at first: %d of %d", r.Left(), len(s))
	}
	if r.Num(1) != 255 || r.Text(2) != "ab" || r.Text(0) != "" || !slices.Equal(r.List(3, 2), []string{"c", "", "de"}) {
		t.Error("what stands first isn't read")
	}
	if r.Num(7) != greatest(7) || r.Num(7) != 0 || len(r.List(0, 0)) != 0 || r.Text(65535) != long(65535) {
		t.Error("what stands in the middle isn't read")
	}
	if !slices.Equal(r.List(255, 1), many(255)) || r.Num(2) != 258 {
		t.Error("what stands last isn't read")
	}
	if r.Left() != 0 || r.Err() != api.OK || r.End() != api.OK {
		t.Errorf("left %d, error %d, end %d", r.Left(), r.Err(), r.End())
	}
}

func TestNumbersAreRead(t *testing.T) {
	for n := 1; n <= 7; n++ {
		for k := range 8 * n {
			l := []int{1 << k, 1<<k - 1, greatest(n) >> k}
			w := num(n, l...)
			r := octet.New(w.s)
			for _, x := range l {
				if y := r.Num(n); y != x {
					t.Errorf("%d in %d was read as %d", x, n, y)
				}
			}
			if w.e != api.OK || r.End() != api.OK {
				t.Errorf("%v in %d: %d %d", l, n, w.e, r.End())
			}
		}
	}
}

// step is a reading call; read tells whether it answered nothing.
type step struct {
	name string
	read func(r *octet.Reader) bool
}

func readNum(n int) step {
	return step{"Num", func(r *octet.Reader) bool { return r.Num(n) == 0 }}
}

func readText(most int) step {
	return step{"Text", func(r *octet.Reader) bool { return r.Text(most) == "" }}
}

func readList(many, most int) step {
	return step{"List", func(r *octet.Reader) bool { return len(r.List(many, most)) == 0 }}
}

func take(n int) step {
	return step{"Take", func(r *octet.Reader) bool { return r.Take(n) == "" }}
}

func TestReadingIsRefused(t *testing.T) {
	for i, c := range []struct {
		s    string
		do   step
		want api.Errno
	}{
		{"", readNum(1), api.ErrShort},
		{"\x01", readNum(2), api.ErrShort},
		{"123456", readNum(7), api.ErrShort},
		{"", readText(9), api.ErrShort},
		{"\xff", readText(0), api.ErrShort},
		{"\x00\x02ab", readText(1), api.ErrLong},
		{"\x00\x02a", readText(1), api.ErrLong},
		{"\x00\x02a", readText(2), api.ErrShort},
		{"\x00\x02", readText(9), api.ErrShort},
		{"\x00\x00", readText(-1), api.ErrLong},
		{"\xff\xff", readText(65534), api.ErrLong},
		{"\xff\xff", readText(65535), api.ErrShort},
		{"", readList(0, 0), api.ErrShort},
		{"\x02\x00\x01c\x00\x01d", readList(1, 9), api.ErrLong},
		{"\x02", readList(1, 9), api.ErrLong},
		{"\x00", readList(-1, 9), api.ErrLong},
		{"\x02", readList(2, 9), api.ErrShort},
		{"\x02\x00\x01c", readList(2, 9), api.ErrShort},
		{"\x02\x00\x01c\x00", readList(2, 9), api.ErrShort},
		{"\x02\x00\x01c\x00\x02d", readList(2, 9), api.ErrShort},
		{"\x02\x00\x01c\x00\x02d", readList(2, 1), api.ErrLong},
		{"\x01\x00\x02de", readList(1, 1), api.ErrLong},
		{"\x01\x00\x00", readList(1, -1), api.ErrLong},
		{"abc", take(-1), api.ErrArg},
		{"abc", take(math.MinInt), api.ErrArg},
		{"", take(-1), api.ErrArg},
		{"abc", take(4), api.ErrShort},
		{"abc", take(math.MaxInt), api.ErrShort},
	} {
		r := octet.New(c.s)
		nothing := c.do.read(r)
		if !nothing || r.Err() != c.want || r.End() != c.want || r.Left() != len(c.s) {
			t.Errorf("row %d, %s of %q: nothing %v, error %d, not %d, left %d", i, c.do.name, c.s, nothing, r.Err(), c.want, r.Left())
		}
	}
}

func TestRefusedBehindWhatWasRead(t *testing.T) {
	r := octet.New("\x07" + "\x02\x00\x01c\x00\x09d")
	if r.Num(1) != 7 || len(r.List(2, 9)) != 0 || r.Err() != api.ErrShort || r.Left() != 7 {
		t.Errorf("error %d, left %d", r.Err(), r.Left())
	}
}

func TestCutShort(t *testing.T) {
	for _, c := range []struct {
		s  string
		do step
	}{
		{num(7, greatest(7)).s, readNum(7)},
		{text("hello").s, readText(5)},
		{list("a", "", "hello").s, readList(3, 5)},
		{"hello", take(5)},
	} {
		for n := range len(c.s) {
			r := octet.New(c.s[:n])
			if !c.do.read(r) || r.Err() != api.ErrShort || r.Left() != n {
				t.Errorf("%s of %q: error %d, left %d", c.do.name, c.s[:n], r.Err(), r.Left())
			}
		}
		r := octet.New(c.s)
		if c.do.read(r) || r.End() != api.OK {
			t.Errorf("%s of %q: error %d", c.do.name, c.s, r.End())
		}
	}
}

func TestTheFirstErrorIsKept(t *testing.T) {
	whole := "\x01\x00\x01c" // a number, a text's start, and a list, just as it is asked
	fails := []struct {
		do   step
		want api.Errno
	}{
		{readNum(0), api.ErrArg}, {readNum(5), api.ErrShort},
		{readText(0), api.ErrLong}, {readText(256), api.ErrShort},
		{readList(0, 9), api.ErrLong}, {readList(1, 0), api.ErrLong},
		{take(-1), api.ErrArg}, {take(5), api.ErrShort},
	}
	for _, f := range fails {
		r := octet.New(whole)
		f.do.read(r)
		for _, next := range []step{readNum(1), readList(1, 1), take(1), readNum(8), readText(-1), readText(9999), take(99), take(-1)} {
			if !next.read(r) || r.Err() != f.want || r.End() != f.want || r.Left() != len(whole) {
				t.Errorf("%s behind %s: error %d, not %d, left %d", next.name, f.do.name, r.Err(), f.want, r.Left())
			}
		}
	}
}

func TestNoTextBehindAnError(t *testing.T) {
	r := octet.New("\x00\x01c")
	r.Take(-1)
	if s := r.Text(1); s != "" || r.Err() != api.ErrArg || r.Left() != 3 {
		t.Errorf("%q, error %d, left %d", s, r.Err(), r.Left())
	}
}

func TestTake(t *testing.T) {
	r := octet.New("ab\x00d")
	if r.Take(0) != "" || r.Left() != 4 || r.Take(3) != "ab\x00" || r.Left() != 1 || r.Take(1) != "d" || r.Take(0) != "" {
		t.Errorf("left %d", r.Left())
	}
	if r.End() != api.OK {
		t.Errorf("end %d", r.End())
	}
}

func TestBytesLeftOver(t *testing.T) {
	r := octet.New("\x05z")
	if r.End() != api.ErrForm || r.Num(1) != 5 || r.End() != api.ErrForm {
		t.Errorf("end %d", r.End())
	}
	if r.Err() != api.OK || r.Left() != 1 || r.Take(1) != "z" || r.End() != api.OK {
		t.Errorf("error %d, end %d", r.Err(), r.End())
	}
}

func TestNoBytes(t *testing.T) {
	r := octet.New("")
	if r == nil || r.Left() != 0 || r.Err() != api.OK || r.End() != api.OK {
		t.Error("what reads no bytes isn't at its end")
	}
}

func TestNilReader(t *testing.T) {
	var r *octet.Reader
	for _, s := range []step{readNum(1), readNum(0), readText(1), readText(-1), readList(1, 1), readList(-1, -1), take(0), take(-1)} {
		if !s.read(r) {
			t.Errorf("%s of nil reads", s.name)
		}
	}
	if r.Left() != 0 || r.Err() != api.ErrArg || r.End() != api.ErrArg {
		t.Errorf("left %d, error %d, end %d", r.Left(), r.Err(), r.End())
	}
}

func TestTwoReadersAreTwo(t *testing.T) {
	a, b := octet.New("\x01\x02"), octet.New("\x03")
	if a.Num(1) != 1 || b.Num(1) != 3 || a.Num(1) != 2 || b.Num(1) != 0 {
		t.Error("one reader goes on by the other's call")
	}
	if a.Err() != api.OK || b.Err() != api.ErrShort {
		t.Errorf("errors %d and %d", a.Err(), b.Err())
	}
}

func TestNoMemoryIsShared(t *testing.T) {
	l := []string{"c", "de"}
	s := list(l...).s
	a, b := octet.New(s).List(2, 2), octet.New(s).List(2, 2)
	a[0] = "z"
	_ = append(a[:1], "z")
	if !slices.Equal(b, []string{"c", "de"}) || !slices.Equal(l, []string{"c", "de"}) {
		t.Errorf("%q, %q", b, l)
	}
	x := []int{3, 2, 1}
	octet.Num(1, x...)
	octet.Text(l...)
	if !slices.Equal(x, []int{3, 2, 1}) || !slices.Equal(l, []string{"c", "de"}) {
		t.Errorf("%v, %q", x, l)
	}
}

// FuzzReading holds what is read against what would be written: each text of bytes is the bytes of at most one thing.
func FuzzReading(f *testing.F) {
	f.Add("", 1, 1, 1)
	f.Add("\x02\x00\x01c\x00\x02de", 2, 2, 2)
	f.Add("\xff\xff\xff", 3, -1, math.MinInt)
	f.Fuzz(func(t *testing.T, s string, n, many, most int) {
		r := octet.New(s)
		if x := r.Num(n); r.Err() == api.OK && num(n, x) != wantWrote(s[:n]) {
			t.Errorf("%d in %d of %q", x, n, s)
		}
		r = octet.New(s)
		if x := r.Text(most); r.Err() == api.OK && (text(x) != wantWrote(s[:len(s)-r.Left()]) || len(x) > most) {
			t.Errorf("%q of %q", x, s)
		}
		r = octet.New(s)
		if l := r.List(many, most); r.Err() == api.OK && (list(l...) != wantWrote(s[:len(s)-r.Left()]) || len(l) > many) {
			t.Errorf("%q of %q", l, s)
		}
	})
}
