package name_test

import (
	"math/big"
	"regexp"
	"slices"
	"strings"
	"testing"

	"reveille/name"
)

// All tests here hold promise P3.1: all are what the chapter says.

// told is what each of the five questions answers, and Of.
type told struct {
	plain, group, topic, tag, key bool
	of                            string
	own                           bool
}

func ask(s string) told {
	of, own := name.Of(s)
	return told{name.Plain(s), name.Group(s), name.Topic(s), name.Tag(s), name.Key(s), of, own}
}

// The chapter's words, as patterns.
var (
	plainForm = regexp.MustCompile(`^[a-z0-9-]{1,16}\z`)
	groupForm = regexp.MustCompile(`^[a-z0-9-]{1,8}\z`)
	ownForm   = regexp.MustCompile(`^%(?:retry|dead)%([a-z0-9-]{1,8})\z`)
	keyForm   = regexp.MustCompile(`^[\x21-\x7e]{1,16}\z`)
)

// want is what the patterns say.
func want(s string) told {
	w := told{plain: plainForm.MatchString(s), group: groupForm.MatchString(s), key: keyForm.MatchString(s)}
	if m := ownForm.FindStringSubmatch(s); m != nil {
		w.of, w.own = m[1], true
	}
	w.topic = w.plain || w.own
	w.tag = w.plain || s == ""
	return w
}

var (
	nothing   = told{}
	empty     = told{tag: true}
	asGroup   = told{plain: true, group: true, topic: true, tag: true, key: true}
	asPlain   = told{plain: true, topic: true, tag: true, key: true}
	asKey     = told{key: true}
	longGroup = "12345678"
)

func ownOf(group string) told { return told{topic: true, key: true, of: group, own: true} }

func TestWhatATextIs(t *testing.T) {
	for _, c := range []struct {
		s    string
		want told
	}{
		{"", empty},
		{"a", asGroup}, {"z", asGroup}, {"m", asGroup}, {"0", asGroup}, {"9", asGroup}, {"5", asGroup}, {"-", asGroup},
		{"--", asGroup}, {"0-z", asGroup}, {"-a9", asGroup}, {"orders", asGroup}, {"billing", asGroup}, {"42", asGroup},
		{"abcdefgh", asGroup}, {"01234567", asGroup}, {"--------", asGroup}, {"a-0-z-9-", asGroup},
		{"abcdefghi", asPlain}, {"012345678", asPlain}, {"---------", asPlain},
		{"abcdefghijklmnop", asPlain}, {"0123456789-abcde", asPlain}, {"----------------", asPlain},
		{"abcdefghijklmnopq", nothing}, {"0123456789-abcdef", nothing}, {"-----------------", nothing},
		{"!", asKey}, {"~", asKey}, {"!~", asKey}, {"A", asKey}, {"Z", asKey}, {"a.b", asKey}, {"a_b", asKey}, {"Order#17", asKey},
		{"!!!!!!!!!!!!!!!!", asKey}, {"~~~~~~~~~~~~~~~~", asKey}, {"~~~~~~~~~~~~~~~~~", nothing}, {"!!!!!!!!!!!!!!!!!", nothing},
		{"ABC", asKey}, {"Abc", asKey}, {"abC", asKey}, {"%", asKey}, {"a%", asKey}, {"%a", asKey}, {"a%b", asKey},
		{" ", nothing}, {"a b", nothing}, {" a", nothing}, {"a ", nothing}, {"a\n", nothing}, {"\na", nothing}, {"\x00", nothing}, {"a\x00", nothing}, {"\x7f", nothing},
		{"%retry%g", ownOf("g")}, {"%dead%g", ownOf("g")}, {"%retry%-", ownOf("-")}, {"%dead%0", ownOf("0")},
		{"%retry%" + longGroup, ownOf(longGroup)}, {"%dead%" + longGroup, ownOf(longGroup)},
		{"%retry%retry", ownOf("retry")}, {"%retry%dead", ownOf("dead")}, {"%dead%dead", ownOf("dead")}, {"%dead%retry", ownOf("retry")},
	} {
		if got := ask(c.s); got != c.want {
			t.Errorf("%q: %+v, not %+v", c.s, got, c.want)
		}
	}
}

func TestNoTopicOfTheBrokersOwn(t *testing.T) {
	for _, c := range []struct {
		s    string
		want told
	}{
		{"%retry%", asKey}, {"%dead%", asKey},
		{"%retry%123456789", asKey}, {"%dead%123456789", asKey}, {"%dead%1234567890", asKey},
		{"%retry%1234567890", nothing}, {"%retry%0123456789abcdef", nothing}, {"%dead%0123456789abcdef", nothing},
		{"%retry%G", asKey}, {"%dead%G", asKey}, {"%retry%g.", asKey}, {"%retry%.g", asKey}, {"%dead%%", asKey},
		{"%retry%g ", nothing}, {"%retry% g", nothing}, {" %retry%g", nothing}, {"%dead%g\n", nothing}, {"%dead%\xff", nothing},
		{"%retry%g%", asKey}, {"%retry%%g", asKey}, {"%retry%%dead%g", asKey}, {"%dead%%dead%g", asKey}, {"%retry%%retry%g", asKey},
		{"%", asKey}, {"%%", asKey}, {"%%g", asKey}, {"%g", asKey}, {"%g%g", asKey},
		{"%retry", asKey}, {"%dead", asKey}, {"retry%g", asKey}, {"dead%g", asKey}, {"%retryg", asKey}, {"%deadg", asKey}, {"x%retry%g", asKey},
		{"%RETRY%g", asKey}, {"%Dead%g", asKey}, {"%retr%g", asKey}, {"%deads%g", asKey}, {"%late%g", asKey}, {"%retry-g", asKey},
	} {
		if got := ask(c.s); got != c.want {
			t.Errorf("%q: %+v, not %+v", c.s, got, c.want)
		}
	}
}

// alphabet are all signs of plain names.
const alphabet = "abcdefghijklmnopqrstuvwxyz0123456789-"

// TestEachByte: each byte there is, alone, and at the front, in the middle, and at the end of what may be else.
func TestEachByte(t *testing.T) {
	for n := range 256 {
		b := string([]byte{byte(n)})
		plain, key := strings.Contains(alphabet, b), n >= '!' && n <= '~'
		for _, s := range []string{b, b + "x", "x" + b, "x" + b + "x", b + b + b} {
			if got := (told{plain: plain, group: plain, topic: plain, tag: plain, key: key}); got != ask(s) {
				t.Errorf("%q: %+v, not %+v", s, ask(s), got)
			}
		}
		for _, head := range []string{"%retry%", "%dead%"} {
			w := told{key: key}
			if plain {
				w = ownOf("x" + b)
			}
			if got := ask(head + "x" + b); got != w {
				t.Errorf("%q: %+v, not %+v", head+"x"+b, got, w)
			}
		}
	}
}

// TestBytesBeside: the first and the last sign of each kind, and the bytes beside them.
func TestBytesBeside(t *testing.T) {
	for _, c := range []struct {
		s          string
		plain, key bool
	}{
		{"a", true, true}, {"`", false, true}, {"z", true, true}, {"{", false, true},
		{"0", true, true}, {"/", false, true}, {"9", true, true}, {":", false, true},
		{"-", true, true}, {",", false, true}, {".", false, true},
		{"!", false, true}, {" ", false, false}, {"~", false, true}, {"\x7f", false, false},
		{"A", false, true}, {"Z", false, true}, {"_", false, true}, {"%", false, true}, {"+", false, true},
	} {
		for _, s := range []string{c.s, "ab" + c.s, c.s + "yz", "m" + c.s + "5"} {
			if w := (told{plain: c.plain, group: c.plain, topic: c.plain, tag: c.plain, key: c.key}); ask(s) != w {
				t.Errorf("%q: %+v, not %+v", s, ask(s), w)
			}
		}
	}
}

func TestEachLength(t *testing.T) {
	for n := range 40 {
		for i := range alphabet {
			s := strings.Repeat(alphabet[i:i+1], n)
			one, group := n >= 1 && n <= 16, n >= 1 && n <= 8
			w := told{plain: one, group: group, topic: one, tag: n <= 16, key: one}
			if got := ask(s); got != w {
				t.Fatalf("%d signs %q: %+v, not %+v", n, s, got, w)
			}
			checkOwn(t, s, group)
		}
		for b := byte('!'); b <= '~'; b++ {
			if s := strings.Repeat(string(b), n); name.Key(s) != (n >= 1 && n <= 16) {
				t.Fatalf("%d bytes %q: %t", n, s, name.Key(s))
			}
		}
	}
	for _, n := range []int{64, 255, 256, 257, 264, 272, 1 << 16, 1<<16 + 8, 1 << 20} {
		if s := strings.Repeat("a", n); ask(s) != nothing || name.Retry(s) != "" || name.Dead(s) != "" {
			t.Errorf("%d signs: %+v", n, ask(s))
		}
	}
}

// checkOwn: a group's two topics, and their group again; of what is no group none.
func checkOwn(t *testing.T, s string, group bool) {
	t.Helper()
	retry, dead := name.Retry(s), name.Dead(s)
	if !group {
		if retry != "" || dead != "" {
			t.Fatalf("%q, no group: %q and %q", s, retry, dead)
		}
		if name.Topic("%retry%"+s) || name.Topic("%dead%"+s) {
			t.Fatalf("%q, no group, has topics", s)
		}
		return
	}
	if retry != "%retry%"+s || dead != "%dead%"+s {
		t.Fatalf("%q: %q and %q", s, retry, dead)
	}
	if ask(retry) != ownOf(s) || ask(dead) != ownOf(s) {
		t.Fatalf("%q: %+v and %+v", s, ask(retry), ask(dead))
	}
}

func TestTheChaptersExample(t *testing.T) {
	s := name.Retry("g")
	if s != "%retry%g" || !name.Topic(s) || name.Plain(s) {
		t.Errorf("%q: %+v", s, ask(s))
	}
}

func TestAGroupsTopics(t *testing.T) {
	for _, s := range []string{"g", "a", "z", "0", "9", "-", "gr", "orders", "a-0", "retry", "dead", longGroup, "--------"} {
		checkOwn(t, s, true)
	}
}

func TestNoGroupsTopics(t *testing.T) {
	for _, s := range []string{
		"", "123456789", "abcdefghijklmnop", "abcdefghijklmnopq", "G", "gG", "g.", "g%", "%", "%g", " g", "g ", "g\n", "\x00", "\xff", "é", "ａ",
		"%retry%g", "%dead%g", "%retry%", "%dead%",
	} {
		checkOwn(t, s, false)
	}
}

// TestOtherSigns: signs of more than one byte, of which some have a plain sign's lowest byte; and bytes that are no sign at all.
func TestOtherSigns(t *testing.T) {
	for _, x := range []string{
		"é", "ß", "š", "ż", "İ", "а", "α", "ａ", "０", "－", "‐", "–", "٣", "\u0121", "\u017e", "\u2161", "\U00010061", "\U0001F514", "\uFFFD",
		"\x80", "\xc3", "\xe1", "\xad", "\xb0", "\xff", "\xfe", "\xc1\xa1", "\xe0\x81\xa1", "\xed\xa0\x80", "\xf0\x9f",
	} {
		for _, s := range []string{x, "a" + x, x + "a", "a" + x + "0", x + x} {
			if got := ask(s); got != nothing {
				t.Errorf("%q: %+v", s, got)
			}
			for _, head := range []string{"%retry%", "%dead%"} {
				if got := ask(head + s); got != nothing {
					t.Errorf("%q: %+v", head+s, got)
				}
			}
		}
	}
}

// TestAllShortTexts: all texts of up to three of the signs at the edges are what the patterns say.
func TestAllShortTexts(t *testing.T) {
	signs := []string{"", "a", "z", "0", "9", "-", "`", "{", "/", ":", ",", ".", "!", "~", " ", "\x7f", "A", "%", "é", "\xff", "\n", "%retry%", "%dead%", "abcdefgh", "abcdefg"}
	for _, a := range signs {
		for _, b := range signs {
			for _, c := range signs {
				if s := a + b + c; ask(s) != want(s) {
					t.Fatalf("%q: %+v, not %+v", s, ask(s), want(s))
				}
			}
		}
	}
}

func TestNumbersThatAreKnown(t *testing.T) {
	for _, c := range []struct {
		s    string
		want int
	}{
		{"", 0}, {"\x00", 0}, {"\x00\x00", 0}, {"\x01", 1}, {"a", 97}, {"\xff", 255}, {"\x7f", 127}, {"\x80", 128},
		{"\x01\x00", 31}, {"\x01\x00\x00", 961}, {"ab", 97*31 + 98}, {"ba", 98*31 + 97}, {"\xff\xff", 255 * 32}, {"abc", 96354}, {"€", (0xe2*31+0x82)*31 + 0xac},
		{"hello", 99162322},
		{"zzzzzz", 122 * (28629151 + 923521 + 29791 + 961 + 31 + 1)},
		{"zzzzzzz", 122*(887503681+28629151+923521+29791+961+31+1) - 26<<32},
		{"\x01\x00\x00\x00\x00\x00\x00", 887503681},
		{"\x01\x00\x00\x00\x00\x00\x00\x00", 27512614111 - 6<<32},
		{"polygenelubricants", 1 << 31},
	} {
		if n := name.Hash(c.s); n != c.want {
			t.Errorf("Hash(%q) is %d, not %d", c.s, n, c.want)
		}
	}
}

// TestNumbersThatGoOver: at the edge itself: 2^32 - 1, and what is one more is 0.
func TestNumbersThatGoOver(t *testing.T) {
	last := bytesOf(1<<32 - 1)
	if n := name.Hash(last); n != 1<<32-1 {
		t.Fatalf("Hash(%q) is %d", last, n)
	}
	over := last[:len(last)-1] + string([]byte{last[len(last)-1] + 1})
	if n := name.Hash(over); n != 0 {
		t.Errorf("Hash(%q) is %d, not 0", over, n)
	}
	for n := range 3000 {
		s := strings.Repeat("\xff", n)
		if got := name.Hash(s); got != bigHash(s) || got < 0 || got >= 1<<32 {
			t.Fatalf("%d bytes: %d, not %d", n, got, bigHash(s))
		}
	}
}

// bytesOf is a text whose number is n: its digits to the base of 31, of which the last one may still be made one more.
func bytesOf(n int) string {
	var b []byte
	for ; n > 0; n /= 31 {
		b = append(b, byte(n%31))
	}
	slices.Reverse(b)
	return string(b)
}

// bigHash does what the chapter says with numbers of any size, and takes what is left of 2^32 only in the end.
func bigHash(s string) int {
	h, base := new(big.Int), big.NewInt(31)
	for i := range len(s) {
		h.Mul(h, base)
		h.Add(h, big.NewInt(int64(s[i])))
	}
	return int(h.Mod(h, big.NewInt(1<<32)).Int64())
}

func TestANumberOfATextCutIntoSeveral(t *testing.T) {
	for _, s := range []string{"hello, world", "%retry%g#key", "\xff\x00\x80\x7féa-0", "polygenelubricants"} {
		want := bigHash(s)
		for i := range len(s) + 1 {
			for j := i; j <= len(s); j++ {
				if n := name.Hash(s[:i], s[i:j], s[j:]); n != want {
					t.Fatalf("%q cut at %d and %d: %d, not %d", s, i, j, n, want)
				}
			}
		}
		var single []string
		for i := range len(s) {
			single = append(single, s[i:i+1], "")
		}
		if n := name.Hash(single...); n != want {
			t.Errorf("%q byte by byte: %d, not %d", s, n, want)
		}
	}
	if name.Hash("ab", "cd") == name.Hash("cd", "ab") {
		t.Error("their order is told by nothing")
	}
}

func TestANumberOfNoTextsAndOfEmptyOnes(t *testing.T) {
	for i, l := range [][]string{nil, {}, {""}, {"", "", ""}} {
		if n := name.Hash(l...); n != 0 {
			t.Errorf("row %d: %d", i, n)
		}
	}
	if a, b := name.Hash("", "hel", "", "lo", ""), name.Hash("hello"); a != b {
		t.Errorf("with empty texts between: %d, not %d", a, b)
	}
}

func TestAll(t *testing.T) {
	short := func(s string) bool { return len(s) < 3 }
	for i, c := range []struct {
		is   func(string) bool
		l    []string
		want bool
	}{
		{name.Plain, []string{"a"}, true},
		{name.Plain, []string{"a", "b-1", "0"}, true},
		{name.Plain, []string{"A"}, false},
		{name.Plain, []string{"A", "b", "c"}, false},
		{name.Plain, []string{"a", "B", "c"}, false},
		{name.Plain, []string{"a", "b", "C"}, false},
		{name.Plain, []string{""}, false},
		{name.Plain, []string{"a", ""}, false},
		{name.Tag, []string{"", "a", ""}, true},
		{name.Key, []string{"A", "%", "~"}, true},
		{name.Key, []string{"A", " "}, false},
		{name.Group, []string{"g", "123456789"}, false},
		{name.Topic, []string{"g", "%dead%g"}, true},
		{short, []string{"a", "ab"}, true},
		{short, []string{"a", "abc", "ab"}, false},
		{short, []string{"abc", "abcd"}, false},
	} {
		if got := name.All(c.is, c.l...); got != c.want {
			t.Errorf("row %d: %q: %t", i, c.l, got)
		}
	}
}

func TestAllOfNothingAndOfNil(t *testing.T) {
	never := func(string) bool { return false }
	for i, l := range [][]string{nil, {}} {
		if !name.All(name.Plain, l...) || !name.All(never, l...) {
			t.Errorf("row %d: it isn't so of none", i)
		}
		if !name.All(nil, l...) {
			t.Errorf("row %d: of nil it isn't so of none", i)
		}
	}
	for _, l := range [][]string{{""}, {"a"}, {"a", "b"}, {"", ""}} {
		if name.All(nil, l...) {
			t.Errorf("of nil it is so of %q", l)
		}
	}
}

func TestAllAsksEachTextInTurn(t *testing.T) {
	var asked []string
	l := []string{"c", "", "a", "b"}
	note := func(s string) bool { asked = append(asked, s); return true }
	if !name.All(note, l...) || !slices.Equal(asked, l) {
		t.Errorf("asked were %q", asked)
	}
	if !slices.Equal(l, []string{"c", "", "a", "b"}) {
		t.Errorf("the list was written into: %q", l)
	}
}

func TestAllNeverPanics(t *testing.T) {
	var none map[string]int
	for i, is := range []func(string) bool{
		func(string) bool { panic("told nothing") },
		func(s string) bool { return s[100] == 'a' },
		func(s string) bool { none[s]++; return true },
		func(s string) bool {
			if s == "b" {
				panic(nil)
			}
			return true
		},
	} {
		if name.All(is, "a", "b") {
			t.Errorf("row %d: it is so of all", i)
		}
		if !name.All(is) {
			t.Errorf("row %d: it isn't so of none", i)
		}
	}
}

func FuzzNames(f *testing.F) {
	for _, s := range []string{"", "a", "%retry%g", "%dead%12345678", "%dead%123456789", "abcdefghijklmnop", "~!", "A", "é", "\xff", "a\n"} {
		f.Add(s, 1)
	}
	f.Fuzz(func(t *testing.T, s string, cut int) {
		w := want(s)
		if got := ask(s); got != w {
			t.Fatalf("%q: %+v, not %+v", s, got, w)
		}
		checkOwn(t, s, w.group)
		cut = int(uint(cut) % uint(len(s)+1))
		if n := name.Hash(s[:cut], s[cut:]); n != bigHash(s) {
			t.Fatalf("%q cut at %d: %d, not %d", s, cut, n, bigHash(s))
		}
		if name.All(name.Plain, s[:cut], s[cut:]) != (want(s[:cut]).plain && want(s[cut:]).plain) {
			t.Fatalf("%q cut at %d", s, cut)
		}
	})
}
