package tag_test

import (
	"math/big"
	"math/rand"
	"regexp"
	"slices"
	"strings"
	"testing"

	"reveille/api"
	"reveille/tag"
)

// What is here says the chapter's words once more, in other ways, to hold the package against.

var (
	oneForm  = regexp.MustCompile(`^[a-z0-9-]{1,16}\z`)
	textForm = regexp.MustCompile(`^(?:\*|([a-z0-9-]{1,16})(?: \|\| ([a-z0-9-]{1,16}))?(?: \|\| ([a-z0-9-]{1,16}))?(?: \|\| ([a-z0-9-]{1,16}))?)\z`)
)

// plainNew tells what is wrong with the tags of a filter: the lists are asked one after the other, each of all tags.
func plainNew(tags []string) api.Errno {
	for _, s := range tags {
		if !oneForm.MatchString(s) {
			return api.ErrName
		}
	}
	sorted := slices.Clone(tags)
	slices.Sort(sorted)
	for i := 1; i < len(sorted); i++ {
		if sorted[i] == sorted[i-1] {
			return api.ErrThere
		}
	}
	if len(tags) > 4 {
		return api.ErrLong
	}
	return api.OK
}

// plainParse is the tags that a text tells (none: all are wanted), and whether it is a filter's.
func plainParse(s string) ([]string, bool) {
	m := textForm.FindStringSubmatch(s)
	if m == nil {
		return nil, false
	}
	l := slices.DeleteFunc(m[1:], func(p string) bool { return p == "" })
	return l, plainNew(l) == api.OK
}

// plainHash works a text's number out in numbers of any size.
func plainHash(s string) int {
	n, bound := new(big.Int), big.NewInt(1<<32)
	for i := range len(s) {
		n.Mul(n, big.NewInt(31)).Add(n, big.NewInt(int64(s[i]))).Mod(n, bound)
	}
	return int(n.Int64())
}

// holdFilter holds a filter of these tags against the chapter's words, in what is asked.
func holdFilter(t *testing.T, f *tag.Filter, tags, asked []string) {
	t.Helper()
	text := "*"
	if len(tags) > 0 {
		text = tags[0]
		for _, s := range tags[1:] {
			text += " || " + s
		}
	}
	if got := f.Text(); got != text {
		t.Errorf("the text of %q is %q", tags, got)
	}
	var of []string
	for _, s := range asked {
		want, quick := len(tags) == 0, len(tags) == 0
		for _, x := range tags {
			want = want || x == s
			quick = quick || plainHash(x) == plainHash(s)
		}
		if got := f.Wants(s); got != want {
			t.Errorf("%q wants %q: %v", text, s, got)
		}
		if got := f.Quick(plainHash(s)); got != quick {
			t.Errorf("%q, quickly %q: %v", text, s, got)
		}
		if want {
			of = append(of, s)
		}
	}
	if got := f.Of(asked...); !slices.Equal(got, of) {
		t.Errorf("%q of %q: %q, not %q", text, asked, got, of)
	}
}

// holdNew holds New of these tags against the chapter's words; and what is made, and the filter of its text.
func holdNew(t *testing.T, tags, asked []string) {
	t.Helper()
	f, e := tag.New(tags...)
	if want := plainNew(tags); e != want || (f != nil) != (want == api.OK) {
		t.Fatalf("New of %q: %v, %d, not %d", tags, f, e, want)
	}
	if e != api.OK {
		return
	}
	holdFilter(t, f, tags, asked)
	back, e := tag.Parse(f.Text())
	if e != api.OK {
		t.Fatalf("Parse of %q: %d", f.Text(), e)
	}
	holdFilter(t, back, tags, asked)
}

// holdParse holds Parse of s against the chapter's words.
func holdParse(t *testing.T, s string, asked []string) {
	t.Helper()
	tags, ok := plainParse(s)
	f, e := tag.Parse(s)
	if !ok {
		if f != nil || e != api.ErrForm {
			t.Fatalf("Parse of %q: %v, %d", s, f, e)
		}
		return
	}
	if e != api.OK {
		t.Fatalf("Parse of %q: %d", s, e)
	}
	if f.Text() != s {
		t.Errorf("Parse of %q has the text %q", s, f.Text())
	}
	holdFilter(t, f, tags, asked)
}

// few are tags of few signs, so that many are one, or have one number.
var few = []string{"x", "y", "z", "a", "b", "ak", "c-", "an", "c0", "xx", "-", "0"}

// anyTags are up to so many tags, of which now and then one may not be.
func anyTags(r *rand.Rand, most int) []string {
	var l []string
	for range r.Intn(most + 1) {
		if r.Intn(40) == 0 {
			l = append(l, bad[r.Intn(len(bad))])
			continue
		}
		l = append(l, few[r.Intn(len(few))])
	}
	return l
}

// anyLongTag is a tag of any signs and length.
func anyLongTag(r *rand.Rand) string {
	const signs = "abcdefghijklmnopqrstuvwxyz0123456789-"
	b := make([]byte, 1+r.Intn(16))
	for i := range b {
		b[i] = signs[r.Intn(len(signs))]
	}
	return string(b)
}

func TestAnyTags(t *testing.T) {
	r := rand.New(rand.NewSource(9))
	for range 20000 {
		holdNew(t, anyTags(r, 7), anyTags(r, 12))
	}
}

func TestAnyLongTags(t *testing.T) {
	r := rand.New(rand.NewSource(90))
	for range 5000 {
		var tags []string
		for range r.Intn(6) {
			tags = append(tags, anyLongTag(r))
		}
		asked := append([]string{anyLongTag(r), ""}, tags...)
		r.Shuffle(len(asked), func(i, j int) { asked[i], asked[j] = asked[j], asked[i] })
		holdNew(t, tags, asked)
	}
}

// TestAnyTexts: texts of pieces that lie near what a filter's is made of.
func TestAnyTexts(t *testing.T) {
	r := rand.New(rand.NewSource(900))
	pieces := []string{"x", "y", "z", "ak", "c-", " || ", " || ", " || ", " ||", "|| ", " ", "|", "*", "", "X", "x"}
	for range 100000 {
		var b strings.Builder
		for range r.Intn(12) {
			b.WriteString(pieces[r.Intn(len(pieces))])
		}
		holdParse(t, b.String(), few)
	}
}

// TestTextsWithOneByteTurned: and with one byte less, or one more.
func TestTextsWithOneByteTurned(t *testing.T) {
	for _, s := range []string{"*", "x", "x || y", "ak || c-", "a || b || c", "a || b || c || d", "ab || cd || ef || gh", longest + " || x"} {
		holdParse(t, s, few)
		for i := range len(s) + 1 {
			for _, by := range []string{" ", "|", "*", "x", "a", "-", "X", "\x00", "\n", "%", "\xff", " || "} {
				holdParse(t, s[:i]+by+s[i:], few)
				if i < len(s) {
					holdParse(t, s[:i]+by+s[i+1:], few)
					holdParse(t, s[:i]+s[i+1:], few)
				}
			}
		}
	}
}

func FuzzNew(f *testing.F) {
	f.Add("", "x,y")
	f.Add("x,y", "y,z,x,y")
	f.Add("ak,c-", "c-,an")
	f.Add("a,b,c,d,e", "")
	f.Add("a,b,a,b,E", "a")
	f.Fuzz(func(t *testing.T, tags, asked string) {
		var l []string
		if tags != "" {
			l = strings.Split(tags, ",")
		}
		holdNew(t, l, strings.Split(asked, ","))
	})
}

func FuzzParse(f *testing.F) {
	for _, s := range []string{"", "*", "x", "x || y", "x || x", "a || b || c || d", "a || b || c || d || e", " || ", "x||y", "* || x"} {
		f.Add(s)
	}
	f.Fuzz(func(t *testing.T, s string) { holdParse(t, s, append([]string{"", s}, few...)) })
}
