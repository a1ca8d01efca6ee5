package entry_test

import (
	"encoding/hex"
	"math"
	"slices"
	"strings"
	"testing"

	"reveille/entry"
)

// All tests here hold promise P7.1: all are what the chapter says.

// kind is a kind of entries: its numbers in their order, and the calls that put and get them.
type kind struct {
	name     string
	widths   [4]int
	greatest [4]int
	put      func(n [4]int) (string, bool)
	get      func(s string) ([4]int, bool)
}

var (
	places = kind{
		"Place", [4]int{6, 2, 5, 7}, [4]int{281474976710655, 65535, 1099511627775, 72057594037927935},
		func(n [4]int) (string, bool) {
			return entry.Place{At: n[0], Long: n[1], Hash: n[2], Born: n[3]}.Put()
		},
		func(s string) ([4]int, bool) {
			p, ok := entry.GetPlace(s)
			return [4]int{p.At, p.Long, p.Hash, p.Born}, ok
		},
	}
	links = kind{
		"Link", [4]int{5, 6, 6, 3}, [4]int{1099511627775, 281474976710655, 281474976710655, 16777215},
		func(n [4]int) (string, bool) {
			return entry.Link{Hash: n[0], At: n[1], Born: n[2], Ahead: n[3]}.Put()
		},
		func(s string) ([4]int, bool) {
			l, ok := entry.GetLink(s)
			return [4]int{l.Hash, l.At, l.Born, l.Ahead}, ok
		},
	}
	marks = kind{
		"Mark", [4]int{6, 6, 6, 2}, [4]int{281474976710655, 281474976710655, 281474976710655, 65535},
		func(n [4]int) (string, bool) {
			return entry.Mark{Due: n[0], At: n[1], Ahead: n[2], Puts: n[3]}.Put()
		},
		func(s string) ([4]int, bool) {
			m, ok := entry.GetMark(s)
			return [4]int{m.Due, m.At, m.Ahead, m.Puts}, ok
		},
	}
	kinds = []kind{places, links, marks}
)

// known are entries of each kind, and their bytes: the chapter's example, one whose bytes are all unlike, and others.
var known = []struct {
	kind   kind
	n      [4]int
	digits string
}{
	{places, [4]int{0, 0, 0, 0}, "000000000000 0000 0000000000 00000000000000"},
	{places, [4]int{0x010203040506, 0x0708, 0x090a0b0c0d, 0x0e0f1011121314}, "010203040506 0708 090a0b0c0d 0e0f1011121314"},
	{places, [4]int{1024, 41, 4294967295, 1}, "000000000400 0029 00ffffffff 00000000000001"},
	{places, [4]int{1 << 40, 258, 255, 1 << 40}, "010000000000 0102 00000000ff 00010000000000"},
	{links, [4]int{0, 0, 0, 0}, "0000000000 000000000000 000000000000 000000"},
	{links, [4]int{0x0102030405, 0x060708090a0b, 0x0c0d0e0f1011, 0x121314}, "0102030405 060708090a0b 0c0d0e0f1011 121314"},
	{links, [4]int{4294967295, 1024, 7, 256}, "00ffffffff 000000000400 000000000007 000100"},
	{links, [4]int{255, 1 << 40, 1 << 40, 1}, "00000000ff 010000000000 010000000000 000001"},
	{marks, [4]int{0, 0, 0, 0}, "000000000000 000000000000 000000000000 0000"},
	{marks, [4]int{0x010203040506, 0x0708090a0b0c, 0x0d0e0f101112, 0x1314}, "010203040506 0708090a0b0c 0d0e0f101112 1314"},
	{marks, [4]int{90, 1024, 65536, 2}, "00000000005a 000000000400 000000010000 0002"},
	{marks, [4]int{1 << 40, 1 << 40, 1, 258}, "010000000000 010000000000 000000000001 0102"},
}

// bytesOf is what hexadecimal digits, with blanks among them, tell.
func bytesOf(t *testing.T, digits string) string {
	t.Helper()
	b, err := hex.DecodeString(strings.ReplaceAll(digits, " ", ""))
	if err != nil {
		t.Fatal(err)
	}
	return string(b)
}

// puts fails, if the numbers' entry hasn't just these bytes, or isn't got back of them.
func puts(t *testing.T, k kind, n [4]int, want string) {
	t.Helper()
	if s, ok := k.put(n); s != want || !ok {
		t.Errorf("%s %v: %x %v, not %x", k.name, n, s, ok, want)
	}
	if got, ok := k.get(want); got != n || !ok {
		t.Errorf("%s of %x: %v %v, not %v", k.name, want, got, ok, n)
	}
}

// isBack fails, if the numbers' entry isn't put, or isn't got back of its bytes.
func isBack(t *testing.T, k kind, n [4]int) {
	t.Helper()
	s, ok := k.put(n)
	if len(s) != 20 || !ok {
		t.Errorf("%s %v: %x %v", k.name, n, s, ok)
	}
	if got, ok := k.get(s); got != n || !ok {
		t.Errorf("%s %v was got back as %v %v", k.name, n, got, ok)
	}
}

// isNone fails, if there is an entry of these numbers.
func isNone(t *testing.T, k kind, n [4]int) {
	t.Helper()
	if s, ok := k.put(n); s != "" || ok {
		t.Errorf("%s %v: %x %v", k.name, n, s, ok)
	}
}

// getsNone fails, if an entry of any kind is got of s.
func getsNone(t *testing.T, s string) {
	t.Helper()
	for _, k := range kinds {
		if n, ok := k.get(s); n != [4]int{} || ok {
			t.Errorf("%s of %x, %d bytes: %v %v", k.name, s, len(s), n, ok)
		}
	}
}

func TestSize(t *testing.T) {
	if entry.Size != 20 {
		t.Error(entry.Size)
	}
}

func TestTheZeroPlace(t *testing.T) {
	noughts := strings.Repeat("\x00", 20)
	if s, ok := (entry.Place{}).Put(); s != noughts || !ok {
		t.Errorf("%x %v", s, ok)
	}
	if p, ok := entry.GetPlace(noughts); p != (entry.Place{}) || !ok {
		t.Errorf("%+v %v", p, ok)
	}
}

func TestEachKindsBytes(t *testing.T) {
	for _, c := range known {
		puts(t, c.kind, c.n, bytesOf(t, c.digits))
	}
}

func TestEachNumberStandsInItsPlace(t *testing.T) {
	for _, k := range kinds {
		at := 0
		for i, w := range k.widths {
			for j := range w {
				b := make([]byte, 20)
				b[at+j] = 0xa7
				n := [4]int{}
				n[i] = 0xa7 << (8 * (w - 1 - j))
				puts(t, k, n, string(b))
			}
			at += w
		}
	}
}

func TestEachBitIsKept(t *testing.T) {
	for _, k := range kinds {
		for i, w := range k.widths {
			for bit := range 8 * w {
				n, rest := [4]int{}, k.greatest
				n[i] = 1 << bit
				rest[i] -= 1 << bit
				isBack(t, k, n)
				isBack(t, k, rest)
			}
		}
	}
}

func TestNumbersAtTheirEdges(t *testing.T) {
	for _, k := range kinds {
		puts(t, k, [4]int{}, strings.Repeat("\x00", 20))
		puts(t, k, k.greatest, strings.Repeat("\xff", 20))
		at := 0
		for i, w := range k.widths {
			alone, but := [4]int{}, k.greatest
			alone[i], but[i] = k.greatest[i], 0
			ones := strings.Repeat("\x00", at) + strings.Repeat("\xff", w) + strings.Repeat("\x00", 20-at-w)
			noughts := strings.Repeat("\xff", at) + strings.Repeat("\x00", w) + strings.Repeat("\xff", 20-at-w)
			puts(t, k, alone, ones)
			puts(t, k, but, noughts)
			alone[i]--
			but[i]++
			isBack(t, k, alone)
			isBack(t, k, but)
			at += w
		}
	}
}

func TestNumbersOutsideTheirRange(t *testing.T) {
	for _, k := range kinds {
		for i, w := range k.widths {
			outside := []int{-1, -2, math.MinInt, -k.greatest[i], -k.greatest[i] - 1, k.greatest[i] + 1, k.greatest[i] + 2, math.MaxInt}
			for bit := 8 * w; bit < 63; bit++ {
				outside = append(outside, 1<<bit, 1<<bit+1, -1<<bit)
			}
			for _, x := range outside {
				for _, n := range [][4]int{{}, {7, 8, 9, 10}, k.greatest} {
					n[i] = x
					isNone(t, k, n)
				}
			}
		}
	}
}

func TestManyNumbersOutsideTheirRange(t *testing.T) {
	for _, k := range kinds {
		for _, n := range [][4]int{
			{-1, -1, -1, -1},
			{-1, 0, 0, -1},
			{0, -1, -1, 0},
			{math.MaxInt, math.MaxInt, math.MaxInt, math.MaxInt},
			{math.MinInt, 0, math.MaxInt, 0},
			{k.greatest[0] + 1, k.greatest[1] + 1, k.greatest[2] + 1, k.greatest[3] + 1},
			{k.greatest[0] + 1, -1, 0, 0},
		} {
			isNone(t, k, n)
		}
	}
}

func TestGetOfNotJustTwenty(t *testing.T) {
	for _, fill := range []string{"\x00", "\x01", "\x7f", "\xff"} {
		for n := range 101 {
			if n != 20 {
				getsNone(t, strings.Repeat(fill, n))
			}
		}
	}
	for _, c := range known {
		s := bytesOf(t, c.digits)
		for n := range s {
			getsNone(t, s[:n])
		}
		for _, more := range []string{"\x00", "x", "\xff", s} {
			getsNone(t, s+more)
			getsNone(t, more+s)
		}
	}
}

func TestAnyTwentyBytesAreOneOfEachKind(t *testing.T) {
	for _, c := range known {
		s := bytesOf(t, c.digits)
		for _, k := range kinds {
			n, ok := k.get(s)
			if !ok {
				t.Errorf("%s of %x: none", k.name, s)
			}
			puts(t, k, n, s)
		}
	}
	s := "abcdefghijklmnopqrst"
	if p, ok := entry.GetPlace(s); p != (entry.Place{At: 0x616263646566, Long: 0x6768, Hash: 0x696a6b6c6d, Born: 0x6e6f7071727374}) || !ok {
		t.Errorf("%x %v", p, ok)
	}
	if l, ok := entry.GetLink(s); l != (entry.Link{Hash: 0x6162636465, At: 0x666768696a6b, Born: 0x6c6d6e6f7071, Ahead: 0x727374}) || !ok {
		t.Errorf("%x %v", l, ok)
	}
	if m, ok := entry.GetMark(s); m != (entry.Mark{Due: 0x616263646566, At: 0x6768696a6b6c, Ahead: 0x6d6e6f707172, Puts: 0x7374}) || !ok {
		t.Errorf("%x %v", m, ok)
	}
}

func TestWhatWasRefusedLeavesNothing(t *testing.T) {
	for _, c := range known {
		want := bytesOf(t, c.digits)
		for range 2 {
			isNone(t, c.kind, [4]int{5, 6, 7, -1})
			getsNone(t, want[1:])
			entry.Cut(want + "x")
			puts(t, c.kind, c.n, want)
		}
	}
}

// cuts fails, if s isn't cut into just these pieces.
func cuts(t *testing.T, s string, want ...string) {
	t.Helper()
	if l, ok := entry.Cut(s); !slices.Equal(l, want) || !ok {
		t.Errorf("Cut of %d bytes: %q %v", len(s), l, ok)
	}
}

// cutsNone fails, if pieces are told of s, though it doesn't come out even.
func cutsNone(t *testing.T, s string) {
	t.Helper()
	if l, ok := entry.Cut(s); len(l) != 0 || ok {
		t.Errorf("Cut of %d bytes: %q %v", len(s), l, ok)
	}
}

func TestCut(t *testing.T) {
	a, b, c := "abcdefghijklmnopqrst", "\x00\x01\xff\xfe4567890123456789", strings.Repeat("\x00", 20)
	cuts(t, "")
	cuts(t, a, a)
	cuts(t, a+b, a, b)
	cuts(t, b+a, b, a)
	cuts(t, a+a, a, a)
	cuts(t, a+b+c+b, a, b, c, b)
	cutsNone(t, a+b+"x")
	cutsNone(t, a+"x")
	cutsNone(t, "x")
	cutsNone(t, a[1:])
	cutsNone(t, a+b[1:])
}

func TestCutOfEachLength(t *testing.T) {
	var all strings.Builder
	for i := range 4100 {
		all.WriteByte(byte(i % 251))
	}
	for n := range all.Len() + 1 {
		s := all.String()[:n]
		if n%20 != 0 {
			cutsNone(t, s)
			continue
		}
		l, ok := entry.Cut(s)
		if len(l) != n/20 || !ok || strings.Join(l, "") != s {
			t.Errorf("Cut of %d bytes: %d pieces, %v", n, len(l), ok)
		}
		for i, p := range l {
			if len(p) != 20 {
				t.Errorf("Cut of %d bytes: piece %d has %d", n, i, len(p))
			}
		}
	}
}

func TestEntriesBehindOneAnother(t *testing.T) {
	var all string
	for _, c := range known {
		s, _ := c.kind.put(c.n)
		all += s
	}
	l, ok := entry.Cut(all)
	if len(l) != len(known) || !ok {
		t.Fatalf("%d pieces, %v", len(l), ok)
	}
	for i, c := range known {
		if n, ok := c.kind.get(l[i]); n != c.n || !ok {
			t.Errorf("piece %d: %v %v, not %v", i, n, ok, c.n)
		}
	}
}

func TestNoMemoryIsShared(t *testing.T) {
	a, b := strings.Repeat("a", 20), strings.Repeat("b", 20)
	one, _ := entry.Cut(a + b)
	two, _ := entry.Cut(a + b)
	one[0], one[1] = "x", "y"
	_ = append(one[:1], "z")
	if !slices.Equal(two, []string{a, b}) {
		t.Errorf("%q", two)
	}
	cuts(t, a+b, a, b)
	cuts(t, b, b)
}
