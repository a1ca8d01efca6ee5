package crc_test

import (
	"hash/crc32"
	"math"
	"testing"

	"reveille/crc"
)

// All tests here hold promise P2.1: all are what the chapter says; a sealed text in which one byte is turned isn't opened.

// opened is what Open answers.
type opened struct {
	s  string
	ok bool
}

func open(t *crc.Table, s string) opened { x, ok := t.Open(s); return opened{x, ok} }

// plainSum goes bit by bit, as the chapter's words do, with no table.
func plainSum(s string) int {
	reg := uint32(0xffffffff)
	for i := range len(s) {
		reg ^= uint32(s[i])
		for range 8 {
			out := reg & 1
			reg >>= 1
			if out == 1 {
				reg ^= 0xEDB88320
			}
		}
	}
	return int(^reg)
}

// allBytes are n bytes, of which each comes that there is.
func allBytes(n int) string {
	b := make([]byte, n)
	for i := range b {
		b[i] = byte(i*167 + i>>8)
	}
	return string(b)
}

func TestSumsThatAreKnown(t *testing.T) {
	table := crc.New()
	for _, c := range []struct {
		s    string
		want int
	}{
		{"123456789", 0xCBF43926},
		{"", 0},
		{"\x00", 0xD202EF8D},
		{"a", 0xE8B7BE43},
		{"abc", 0x352441C2},
		{"\x00\x00\x00\x00", 0x2144DF1C},
		{"\xff\xff\xff\xff", 0xFFFFFFFF},
		{"The quick brown fox jumps over the lazy dog", 0x414FA339},
		{"€", plainSum("\xe2\x82\xac")},
	} {
		if n := crc.Sum(c.s); n != c.want {
			t.Errorf("Sum(%q) is %X, not %X", c.s, n, c.want)
		}
		if n := table.Sum(c.s); n != c.want {
			t.Errorf("a table's Sum(%q) is %X, not %X", c.s, n, c.want)
		}
	}
}

func TestSumsOfEachLength(t *testing.T) {
	table, all := crc.New(), allBytes(1500)
	for n := range 1500 {
		s, want := all[:n], int(crc32.ChecksumIEEE([]byte(all[:n])))
		if plainSum(s) != want {
			t.Fatalf("the test's own sum of %d bytes is %X, not %X", n, plainSum(s), want)
		}
		if got := table.Sum(s); got != want {
			t.Fatalf("%d bytes: %X, not %X", n, got, want)
		}
	}
	if got, want := crc.Sum(all), plainSum(all); got != want {
		t.Errorf("Sum: %X, not %X", got, want)
	}
}

func TestSumOfNoTextsAndOfEmptyOnes(t *testing.T) {
	table := crc.New()
	for i, l := range [][]string{nil, {}, {""}, {"", "", ""}} {
		if a, b := crc.Sum(l...), table.Sum(l...); a != 0 || b != 0 {
			t.Errorf("row %d: %X and %X, not 0", i, a, b)
		}
	}
	if n := table.Sum("", "12345", "", "6789", ""); n != 0xCBF43926 {
		t.Errorf("with empty texts between: %X", n)
	}
}

func TestATextCutIntoSeveral(t *testing.T) {
	table, s := crc.New(), allBytes(23)
	want := plainSum(s)
	for i := range len(s) + 1 {
		for j := i; j <= len(s); j++ {
			if n := table.Sum(s[:i], s[i:j], s[j:]); n != want {
				t.Fatalf("cut at %d and %d: %X, not %X", i, j, n, want)
			}
			if i == j && crc.Sum(s[:i], s[i:]) != want {
				t.Fatalf("Sum cut at %d isn't %X", i, want)
			}
		}
	}
	single := make([]string, len(s))
	for i := range single {
		single[i] = s[i : i+1]
	}
	if n := table.Sum(single...); n != want {
		t.Errorf("byte by byte: %X, not %X", n, want)
	}
	if crc.Sum("ab", "cd") == crc.Sum("cd", "ab") {
		t.Error("their order is told by nothing")
	}
}

func TestSumDoesNotWriteIntoTheList(t *testing.T) {
	l := []string{"12345", "6789"}
	crc.Sum(l...)
	crc.New().Sum(l...)
	if l[0] != "12345" || l[1] != "6789" {
		t.Errorf("%q", l)
	}
}

func TestATableAnswersTheSameAgain(t *testing.T) {
	table := crc.New()
	for range 3 {
		if n := table.Sum("123456789"); n != 0xCBF43926 {
			t.Errorf("%X", n)
		}
		table.Seal("x")
		table.Open("y")
		table.At(3, 255)
	}
}

func TestAt(t *testing.T) {
	table := crc.New()
	for _, c := range []struct{ k, b, want int }{
		{0, 0, 0}, {0, 1, 0x77073096}, {0, 128, 0xEDB88320}, {0, 255, 0x2D02EF8D},
		{1, 0, 0}, {1, 1, 0x191B3141},
		{2, 0, 0}, {2, 1, 0x01C26A37},
		{3, 0, 0}, {3, 1, 0xB8BC6765}, {3, 255, 0xDE0506F1},
	} {
		if n := table.At(c.k, c.b); n != c.want {
			t.Errorf("At(%d, %d) is %08X, not %08X", c.k, c.b, n, c.want)
		}
	}
}

// TestAtOfEachByte: table k tells what a byte leads to with k bytes 0 behind it.
func TestAtOfEachByte(t *testing.T) {
	table := crc.New()
	for k := range 4 {
		for b := range 256 {
			want := uint32(b)
			for range 8 * (k + 1) {
				out := want & 1
				want >>= 1
				if out == 1 {
					want ^= 0xEDB88320
				}
			}
			if n := table.At(k, b); n != int(want) {
				t.Fatalf("At(%d, %d) is %08X, not %08X", k, b, n, want)
			}
		}
	}
}

func TestAtOutside(t *testing.T) {
	table := crc.New()
	far := []int{math.MinInt, math.MinInt32, -256, -4, -1, 1 << 32, 1<<32 + 1, 1<<40 + 1, math.MaxInt}
	for _, k := range append([]int{4, 5, 255}, far...) {
		for _, b := range []int{0, 1, 255} {
			if n := table.At(k, b); n != 0 {
				t.Errorf("At(%d, %d) is %X", k, b, n)
			}
		}
	}
	for _, b := range append([]int{256, 257, 511, 1 << 16}, far...) {
		for k := range 4 {
			if n := table.At(k, b); n != 0 {
				t.Errorf("At(%d, %d) is %X", k, b, n)
			}
		}
	}
	if table.At(4, 256) != 0 || table.At(-1, -1) != 0 {
		t.Error("both outside")
	}
}

func TestSeal(t *testing.T) {
	table := crc.New()
	for _, c := range []struct{ s, want string }{
		{"", "\x00\x00\x00\x00"},
		{"123456789", "\xCB\xF4\x39\x26123456789"},
		{"\x00", "\xD2\x02\xEF\x8D\x00"},
		{"abc", "\x35\x24\x41\xC2abc"},
	} {
		if s := table.Seal(c.s); s != c.want {
			t.Errorf("Seal(%q) is %q, not %q", c.s, s, c.want)
		}
		if o := open(crc.New(), c.want); o != (opened{c.s, true}) {
			t.Errorf("Open(%q) is %q %t", c.want, o.s, o.ok)
		}
	}
}

func TestSealedIsOpened(t *testing.T) {
	table, all := crc.New(), allBytes(600)
	for n := range 600 {
		s := all[n:]
		if o := open(table, table.Seal(s)); o != (opened{s, true}) {
			t.Fatalf("%d bytes: %t", len(s), o.ok)
		}
	}
	twice := table.Seal(table.Seal("x"))
	once, _ := table.Open(twice)
	if o := open(table, once); o != (opened{"x", true}) {
		t.Errorf("sealed twice: %q %t", o.s, o.ok)
	}
}

func TestOpenOfTooFewBytes(t *testing.T) {
	table := crc.New()
	for _, s := range []string{"", "\x00", "\x00\x00", "\x00\x00\x00", "abc"} {
		if o := open(table, s); o != (opened{}) {
			t.Errorf("Open(%q) is %q %t", s, o.s, o.ok)
		}
	}
}

func TestOpenOfAnotherSum(t *testing.T) {
	table := crc.New()
	for _, s := range []string{
		"\x00\x00\x00\x01",
		"\x01\x00\x00\x00",
		"\xff\xff\xff\xff",
		"\x26\x39\xF4\xCB123456789",
		"123456789\xCB\xF4\x39\x26",
		"\x34\x0B\xC6\xD9123456789",
		"\x00\x00\x00\x00123456789",
	} {
		if o := open(table, s); o != (opened{}) {
			t.Errorf("Open(%q) is %q %t", s, o.s, o.ok)
		}
	}
}

func TestOneByteTurned(t *testing.T) {
	table := crc.New()
	for _, s := range []string{"", "x", "abcd", "123456789", allBytes(40)} {
		sealed := table.Seal(s)
		for i := range len(sealed) {
			for turn := 1; turn < 256; turn++ {
				b := []byte(sealed)
				b[i] ^= byte(turn)
				if o := open(table, string(b)); o != (opened{}) {
					t.Fatalf("%q with byte %d turned by %d was opened", sealed, i, turn)
				}
			}
		}
	}
}

func TestOneByteTurnedInALongText(t *testing.T) {
	table := crc.New()
	sealed := table.Seal(allBytes(3000))
	for i := range len(sealed) {
		b := []byte(sealed)
		b[i] ^= 1 << (i % 8)
		if o := open(table, string(b)); o != (opened{}) {
			t.Fatalf("with byte %d turned it was opened", i)
		}
	}
}

func TestCutShort(t *testing.T) {
	table := crc.New()
	for _, s := range []string{"x", "123456789", allBytes(300)} {
		sealed := table.Seal(s)
		for n := range len(sealed) {
			if o := open(table, sealed[:n]); o != (opened{}) {
				t.Errorf("the first %d bytes of %q were opened", n, sealed)
			}
			if n > 0 && open(table, sealed[n:]) != (opened{}) {
				t.Errorf("%q without its first %d bytes was opened", sealed, n)
			}
		}
		if o := open(table, sealed+"\x00"); o != (opened{}) {
			t.Errorf("%q with a byte behind it was opened", sealed)
		}
	}
}

func TestNoTable(t *testing.T) {
	var none *crc.Table
	if none.Sum() != 0 || none.Sum("123456789") != 0 {
		t.Error("it sums")
	}
	for k := range 4 {
		if none.At(k, 1) != 0 || none.At(k, 255) != 0 {
			t.Error("it has words")
		}
	}
	if none.At(-1, 256) != 0 {
		t.Error("it has words outside")
	}
	if s := none.Seal("x"); s != "" || none.Seal("") != "" {
		t.Errorf("it seals: %q", s)
	}
	for _, s := range []string{"", "abc", crc.New().Seal(""), crc.New().Seal("x")} {
		if o := open(none, s); o != (opened{}) {
			t.Errorf("it opens %q: %q %t", s, o.s, o.ok)
		}
	}
}

func FuzzSealing(f *testing.F) {
	f.Add("123456789", 4, 0, byte(1))
	f.Add("", 0, 3, byte(255))
	f.Add(allBytes(70), 33, 40, byte(8))
	f.Fuzz(func(t *testing.T, s string, cut, at int, turn byte) {
		table := crc.New()
		want := int(crc32.ChecksumIEEE([]byte(s)))
		cut = int(uint(cut) % uint(len(s)+1))
		if a, b := table.Sum(s), crc.Sum(s[:cut], s[cut:]); a != want || b != want {
			t.Fatalf("%X and %X, not %X", a, b, want)
		}
		sealed := table.Seal(s)
		if o := open(table, sealed); o != (opened{s, true}) {
			t.Fatalf("%q %t", o.s, o.ok)
		}
		spoilt := []byte(sealed)
		spoilt[uint(at)%uint(len(spoilt))] ^= turn
		if o := open(table, string(spoilt)); turn != 0 && o != (opened{}) {
			t.Fatalf("%q was opened", spoilt)
		}
		if o := open(table, s); o.ok && (len(s) < 4 || table.Seal(o.s) != s) {
			t.Fatalf("%q, which nobody sealed, was opened", s)
		}
	})
}
