package tag_test

import (
	"math"
	"slices"
	"strconv"
	"strings"
	"testing"

	"reveille/api"
	"reveille/name"
	"reveille/tag"
)

// All tests here hold promise P9.1: all are what the chapter says; what is wanted is so quickly, too.

var (
	longest = strings.Repeat("m", 16)
	beyond  = strings.Repeat("m", 17)
)

// good are tags that aren't empty, unlike ones. "ak" and "c-" have one number.
var good = []string{"x", "y", "z", "a", "0", "-", "ak", "c-", "a-0", "--", "xy", "yx", "orders-7", longest, longest[1:], "0123456789-abcde", "abcdefghijklmnop", "----------------"}

// bad are what no tag of a filter may be.
var bad = []string{
	"", " ", "*", "X", "Xy", "xY", "ABC", "x y", " x", "x ", "x\n", "\x00", "x\x00", "x_y", "x.y", "x|y", "x||y", "|", "||", " || ", "x || y", "x,y",
	"%retry%g", "%dead%g", "%retry%", "%", "é", "ａ", "\xff", "\u0161", beyond, strings.Repeat("m", 255), "!", "~",
	"x*", "*x", "/", ":", "`", "{", ",", ".",
}

// made is a filter of tags that may be.
func made(t *testing.T, tags ...string) *tag.Filter {
	t.Helper()
	f, e := tag.New(tags...)
	if e != api.OK || f == nil {
		t.Fatalf("New of %q: %v, %d", tags, f, e)
	}
	return f
}

// isRefused fails, if New of these tags isn't refused so.
func isRefused(t *testing.T, want api.Errno, tags ...string) {
	t.Helper()
	if f, e := tag.New(tags...); f != nil || e != want {
		t.Errorf("New of %.200q: %v, %d, not %d", tags, f, e, want)
	}
}

// isNoText fails, if s is a filter's text.
func isNoText(t *testing.T, s string) {
	t.Helper()
	if f, e := tag.Parse(s); f != nil || e != api.ErrForm {
		t.Errorf("Parse of %.200q: %v, %d", s, f, e)
	}
}

// wantsJust fails, if f's text isn't that of these tags, or one of them isn't wanted, or another one is; and so for the filter of its text.
func wantsJust(t *testing.T, f *tag.Filter, tags ...string) {
	t.Helper()
	text := strings.Join(tags, " || ")
	if len(tags) == 0 {
		text = "*"
	}
	back, e := tag.Parse(text)
	if e != api.OK {
		t.Fatalf("Parse of %q: %d", text, e)
	}
	for _, x := range []*tag.Filter{f, back} {
		if got := x.Text(); got != text {
			t.Errorf("the text is %q, not %q", got, text)
		}
		wantsOnly(t, x, tags...)
	}
}

// wantsOnly asks of these tags, and of all that the tests know.
func wantsOnly(t *testing.T, f *tag.Filter, tags ...string) {
	t.Helper()
	asked := slices.Concat([]string{""}, good, tags)
	var wanted, quick []string
	for _, s := range asked {
		if len(tags) == 0 || slices.Contains(tags, s) {
			wanted = append(wanted, s)
		}
		if f.Quick(name.Hash(s)) {
			quick = append(quick, s)
		}
	}
	if got := f.Of(asked...); !slices.Equal(got, wanted) {
		t.Errorf("%q: Of is %q, not %q", f.Text(), got, wanted)
	}
	for _, s := range asked {
		if got, want := f.Wants(s), slices.Contains(wanted, s); got != want {
			t.Errorf("%q wants %q: %v", f.Text(), s, got)
		}
		same := slices.ContainsFunc(wanted, func(w string) bool { return name.Hash(w) == name.Hash(s) })
		if slices.Contains(quick, s) != same {
			t.Errorf("%q, quickly %q: %v", f.Text(), s, !same)
		}
	}
}

func TestTheChaptersExample(t *testing.T) {
	f, e := tag.Parse("x || y")
	if e != api.OK || !f.Wants("y") || f.Wants("z") || !f.Wants("x") {
		t.Errorf("%v %d", f, e)
	}
	wantsJust(t, f, "x", "y")
}

func TestOneToFourTags(t *testing.T) {
	for _, a := range good {
		wantsJust(t, made(t, a), a)
		for _, b := range good {
			if a != b {
				wantsJust(t, made(t, a, b), a, b)
			}
		}
	}
	for i := range good {
		l := append(slices.Clone(good[i:]), good[:i]...)
		wantsJust(t, made(t, l[:3]...), l[:3]...)
		wantsJust(t, made(t, l[:4]...), l[:4]...)
		slices.Reverse(l)
		wantsJust(t, made(t, l[:4]...), l[:4]...)
	}
}

func TestTheTextIsInTheOrderInWhichTheyCame(t *testing.T) {
	for want, tags := range map[string][]string{
		"*": nil, "x": {"x"}, "y || x": {"y", "x"}, "z || a || m": {"z", "a", "m"}, "d || b || c || a": {"d", "b", "c", "a"}, "- || 0 || a || z": {"-", "0", "a", "z"},
	} {
		if got := made(t, tags...).Text(); got != want {
			t.Errorf("%q: %q", tags, got)
		}
	}
}

func TestOfNoTagsAllAreWanted(t *testing.T) {
	parsed, e := tag.Parse("*")
	if e != api.OK {
		t.Fatal(e)
	}
	for _, f := range []*tag.Filter{made(t), made(t, []string{}...), parsed} {
		wantsJust(t, f)
		for _, n := range []int{0, 1, 7, -1, 120, 1<<32 - 1, 1 << 32, math.MaxInt, math.MinInt} {
			if !f.Quick(n) {
				t.Errorf("not quickly %d", n)
			}
		}
		if !f.Wants("") {
			t.Error("the empty tag isn't wanted")
		}
	}
}

func TestTheEmptyTagIsNotWantedBySome(t *testing.T) {
	for _, s := range good {
		f := made(t, s)
		if f.Wants("") || f.Quick(0) || len(f.Of("", "")) != 0 {
			t.Errorf("%q wants the empty tag", s)
		}
	}
}

func TestTheLengthOfATag(t *testing.T) {
	for n := range 40 {
		for _, sign := range []string{"a", "z", "0", "9", "-"} {
			s := strings.Repeat(sign, n)
			if n == 0 || n > 16 {
				isRefused(t, api.ErrName, s)
				isRefused(t, api.ErrName, "x", s)
				isNoText(t, s)
				isNoText(t, "x || "+s)
				continue
			}
			f := made(t, s)
			if f.Text() != s || !f.Wants(s) || f.Wants(s[1:]) || f.Wants(s+sign) || f.Wants("x"+s) {
				t.Errorf("%q: %q", s, f.Text())
			}
		}
	}
	for _, n := range []int{255, 256, 257, 272, 1 << 16, 1<<16 + 16, 1 << 20} {
		s := strings.Repeat("0", n)
		isRefused(t, api.ErrName, s)
		isRefused(t, api.ErrName, s, "x", "x")
		isNoText(t, s)
		isNoText(t, s+" || x")
	}
	l := []string{longest, strings.Repeat("n", 16), strings.Repeat("0", 16), strings.Repeat("-", 16)}
	f := made(t, l...)
	if text := strings.Join(l, " || "); f.Text() != text || len(text) != 76 || !slices.Equal(f.Of(l...), l) {
		t.Errorf("%q", f.Text())
	}
}

func TestTagsThatMayNotBe(t *testing.T) {
	for _, s := range bad {
		for _, l := range [][]string{{s}, {s, "y"}, {"y", s}, {"y", s, "z"}, {"y", "z", "a", s}, {s, "y", "z", "a"}, {s, s}, {s, "y", "X"}} {
			isRefused(t, api.ErrName, l...)
		}
	}
	for n := range 256 {
		b := string([]byte{byte(n)})
		if name.Plain(b) {
			continue
		}
		for _, s := range []string{b, "y" + b, b + "y", "y" + b + "z"} {
			isRefused(t, api.ErrName, s)
			isRefused(t, api.ErrName, "x", s)
			if s != "*" {
				isNoText(t, s)
			}
		}
	}
}

func TestTwoTagsThatAreOne(t *testing.T) {
	for _, s := range good[1:] {
		for _, l := range [][]string{
			{s, s}, {s, s, "x"}, {"x", s, s}, {s, "x", s}, {s, s, s}, {s, s, s, s}, {"x", s, "yyy", s}, {s, "x", "yyy", s}, {"x", "yyy", s, s}, {"x", s, s, "x"}, {"x", s, "x", s},
		} {
			isRefused(t, api.ErrThere, l...)
			isNoText(t, strings.Join(l, " || "))
		}
	}
	for _, l := range [][]string{{"x", "xx"}, {"x", "x-"}, {"-x", "x"}, {"ab", "ba"}, {longest, longest[1:]}, {"o", "0", "l", "1"}, {"a", "aa", "aaa", "aaaa"}} {
		wantsJust(t, made(t, l...), l...)
	}
}

// some is so many tags, unlike ones.
func some(n int) []string {
	var l []string
	for i := range n {
		l = append(l, "t"+strconv.Itoa(i))
	}
	return l
}

func TestFourTagsAndMore(t *testing.T) {
	for n := range 60 {
		l := some(n)
		if n <= 4 {
			made(t, l...)
			continue
		}
		isRefused(t, api.ErrLong, l...)
		isNoText(t, strings.Join(l, " || "))
	}
	isRefused(t, api.ErrLong, good[:5]...)
	isRefused(t, api.ErrLong, good...)
	isRefused(t, api.ErrLong, some(200000)...)
	isNoText(t, strings.Join(some(200000), " || "))
}

// TestTheOrderOfTheErrors: what may not be is asked ahead of what is there twice, and that ahead of how many there are; wherever they stand.
func TestTheOrderOfTheErrors(t *testing.T) {
	for _, n := range []int{5, 6, 7, 9, 40, 3000} {
		l := some(n)
		for _, i := range []int{0, 1, 3, 4, n - 1} {
			for _, j := range []int{0, 2, 4, n - 2, n - 1} {
				one := slices.Clone(l)
				one[i] = "X"
				isRefused(t, api.ErrName, one...)
				if i == j {
					continue
				}
				one[j] = l[(j+1)%n]
				one[i] = one[j]
				isRefused(t, api.ErrThere, one...)
				k := slices.IndexFunc(one, func(s string) bool { return s != one[i] })
				one[k] = ""
				isRefused(t, api.ErrName, one...)
			}
		}
	}
	isRefused(t, api.ErrName, "x", "x", "X")
	isRefused(t, api.ErrName, "X", "x", "x")
	isRefused(t, api.ErrName, "x", "x", "")
	isRefused(t, api.ErrName, "", "")
	isRefused(t, api.ErrName, "X", "X", "X", "X", "X")
	isRefused(t, api.ErrThere, "x", "x", "y", "z", "a")
	isRefused(t, api.ErrThere, "y", "z", "a", "x", "x")
	isRefused(t, api.ErrThere, "x", "x", "x", "x", "x")
	isRefused(t, api.ErrName, "x", "x", "y", "z", "A")
}

func TestTheStar(t *testing.T) {
	isRefused(t, api.ErrName, "*")
	isRefused(t, api.ErrName, "*", "*")
	for _, s := range []string{
		"**", "* ", " *", "*x", "x*", "* || *", "* || x", "x || *", "x || * || y", "* || x || y || z", "x || y || z || *", "*||x", "* | x", "*\n", "\x00*", "* || ", " || *", "***", "＊",
	} {
		isNoText(t, s)
	}
}

func TestTextsThatAreNone(t *testing.T) {
	for _, s := range []string{
		"", " ", "  ", "||", " ||", "|| ", " || ", " ||  || ", " || || ", "|", "x|", "x ||", "x || ", "x ||  ", " || x", "|| x", "  || x", "x || y || ", " || x || y", " || x || ",
		"x ||  || y", "x || || y", "x || y ||  || z", "x |||| y", "x || | y", "x ||| y", "x | | y", "x | y", "x||y", "x|| y", "x ||y", "x  || y", "x ||  y", "x  ||  y", " x || y", "x || y ",
		"x\t||\ty", "x ||\ny", "x\n|| y", "x || y\n", "\nx || y", "x || y\x00", "x\u00a0|| y", "x ‖ y", "x or y", "x y", "x,y", "x, y", "x; y",
		"X", "x || Y", "X || y", "%retry%g", "x || %dead%g", "x || x", "x || y || x", "y || x || x", "x || y || z || x",
		"a || b || c || d || e", "a || b || c || d || ", "a || b || c || d || d", "a || b || c || d || E", "a || b || c || d || *", "a || b || c || d || e || f", "a || b || c || d ||", "a || b || c || d || e || f || ",
		beyond, "x || " + beyond, beyond + " || x", strings.Repeat("x", 1<<20), strings.Repeat(" || ", 1<<18), strings.Repeat(" ", 1<<20),
	} {
		isNoText(t, s)
	}
}

func TestANumberThatTwoTagsHave(t *testing.T) {
	for _, pair := range [][2]string{{"ak", "c-"}, {"an", "c0"}, {"x-ak", "x-c-"}} {
		a, b := pair[0], pair[1]
		if name.Hash(a) != name.Hash(b) {
			t.Fatalf("%q and %q don't have one number", a, b)
		}
		for range 2 {
			f := made(t, a)
			if !f.Quick(name.Hash(b)) || f.Wants(b) || !f.Wants(a) || !slices.Equal(f.Of(b, a, b), []string{a}) {
				t.Errorf("%q, asked of %q: %v %v", a, b, f.Quick(name.Hash(b)), f.Wants(b))
			}
			wantsJust(t, made(t, a, b), a, b)
			wantsJust(t, made(t, "x", a, "y", b), "x", a, "y", b)
			a, b = b, a
		}
	}
}

func TestNumbers(t *testing.T) {
	if !made(t, "ab").Quick(97*31 + 98) {
		t.Error("not the number of ab")
	}
	l := []string{"ab", "zzzzzzz", longest, "0"}
	f := made(t, l...)
	for _, s := range l {
		n := name.Hash(s)
		if !f.Quick(n) {
			t.Errorf("not %d, %q's", n, s)
		}
		for _, other := range []int{n + 1, n - 1, -n, ^n, n + 1<<32, n - 1<<32, n + 1<<40, n | math.MinInt, 2 * n, n / 2} {
			if f.Quick(other) {
				t.Errorf("%d, beside %q's %d", other, s, n)
			}
		}
	}
	for _, n := range []int{0, -1, 1, 4, 1<<32 - 1, 1 << 32, math.MaxInt, math.MinInt} {
		if f.Quick(n) {
			t.Errorf("%d", n)
		}
	}
}

func TestWantsWhatIsNoTag(t *testing.T) {
	f := made(t, "x", "y", "a", "b")
	for _, s := range append([]string{"x || y", "x || y || a || b", "xy", "x,y", "x y"}, bad...) {
		if f.Wants(s) || len(f.Of(s, s)) != 0 {
			t.Errorf("%.200q is wanted", s)
		}
	}
}

func TestOf(t *testing.T) {
	f := made(t, "y", "x")
	for _, c := range []struct{ of, want []string }{
		{nil, nil},
		{[]string{}, nil},
		{[]string{"z"}, nil},
		{[]string{"z", "", "a", "Y", "*"}, nil},
		{[]string{"x"}, []string{"x"}},
		{[]string{"x", "y"}, []string{"x", "y"}},
		{[]string{"y", "x"}, []string{"y", "x"}},
		{[]string{"z", "x", "z", "y", "z"}, []string{"x", "y"}},
		{[]string{"x", "x"}, []string{"x", "x"}},
		{[]string{"x", "z", "y", "x", "", "y", "y"}, []string{"x", "y", "x", "y", "y"}},
	} {
		if got := f.Of(c.of...); !slices.Equal(got, c.want) {
			t.Errorf("Of %q: %q, not %q", c.of, got, c.want)
		}
	}
	for _, l := range [][]string{nil, {""}, {"z", "a", "z", "", "x"}, good} {
		if got := made(t).Of(l...); !slices.Equal(got, l) {
			t.Errorf("of all wanted ones, Of %q: %q", l, got)
		}
	}
}

func TestNil(t *testing.T) {
	var f *tag.Filter
	if f.Text() != "" {
		t.Errorf("%q", f.Text())
	}
	for _, s := range append([]string{"", "*"}, good...) {
		if f.Quick(name.Hash(s)) || f.Wants(s) || len(f.Of(s, "x", s)) != 0 {
			t.Errorf("nil wants %q", s)
		}
	}
	for _, n := range []int{0, -1, 1 << 32, math.MaxInt, math.MinInt} {
		if f.Quick(n) {
			t.Errorf("nil, quickly %d", n)
		}
	}
	if len(f.Of()) != 0 {
		t.Error("nil has tags")
	}
}

func TestNoMemoryIsShared(t *testing.T) {
	l := []string{"x", "y", "z"}
	f := made(t, l...)
	l[0], l[1], l[2] = "a", "0", "-"
	wantsJust(t, f, "x", "y", "z")

	for _, g := range []*tag.Filter{f, made(t)} {
		of := []string{"a", "z", "x", "a", "y"}
		got := g.Of(of...)
		if !slices.Equal(of, []string{"a", "z", "x", "a", "y"}) {
			t.Errorf("the argument is %q", of)
		}
		kept := slices.Clone(got)
		for i := range of {
			of[i] = "0"
		}
		if !slices.Equal(got, kept) {
			t.Errorf("what was answered is %q, not %q", got, kept)
		}
		for i := range got {
			got[i] = "-"
		}
		_ = append(got[:1], "-")
		if again := g.Of(f.Of("x", "y", "z")...); !slices.Equal(again, []string{"x", "y", "z"}) {
			t.Errorf("Of is %q", again)
		}
	}
	wantsJust(t, f, "x", "y", "z")
}

func TestNoArgumentIsWrittenInto(t *testing.T) {
	for _, l := range [][]string{{"z", "x", "y", "a"}, {"z", "x", "y", "z"}, {"z", "X", "y", "z"}, {"z", "y", "x", "d", "c"}} {
		kept := slices.Clone(l)
		room := append(slices.Clone(l), "behind it")
		tag.New(room[:len(l)]...)
		if !slices.Equal(room[:len(l)], kept) || room[len(l)] != "behind it" {
			t.Errorf("%q has become %q", kept, room)
		}
		made(t, "x", "z").Of(room[:len(l)]...)
		if !slices.Equal(room[:len(l)], kept) || room[len(l)] != "behind it" {
			t.Errorf("behind Of %q has become %q", kept, room)
		}
	}
}

// TestFiltersAreApart: what is asked of one, or refused, changes neither it nor another one.
func TestFiltersAreApart(t *testing.T) {
	one, other, every := made(t, "x", "y"), made(t, "z"), made(t)
	for range 3 {
		isRefused(t, api.ErrThere, "x", "x")
		isRefused(t, api.ErrLong, some(5)...)
		isNoText(t, "a || b || ")
		wantsJust(t, one, "x", "y")
		wantsJust(t, other, "z")
		wantsJust(t, every)
	}
}
