package entry_test

import (
	"encoding/hex"
	"fmt"
	"math"
	"math/big"
	"math/rand"
	"strings"
	"testing"

	"reveille/entry"
)

// What is here says the chapter's words once more, in other ways, to hold the package against.

// plainPut writes the numbers in hexadecimal digits, two for each byte: one that needs more of them, or a sign, is none.
func plainPut(t *testing.T, k kind, n [4]int) (string, bool) {
	t.Helper()
	digits := ""
	for i, w := range k.widths {
		d := fmt.Sprintf("%0*x", 2*w, n[i])
		if len(d) > 2*w || n[i] < 0 {
			return "", false
		}
		digits += d
	}
	return bytesOf(t, digits), true
}

// plainGet reads the numbers off hexadecimal digits.
func plainGet(k kind, s string) ([4]int, bool) {
	var n [4]int
	if len(s) != 20 {
		return n, false
	}
	digits := hex.EncodeToString([]byte(s))
	for i, w := range k.widths {
		x, ok := new(big.Int).SetString(digits[:2*w], 16)
		if !ok || !x.IsInt64() {
			return [4]int{}, false
		}
		n[i] = int(x.Int64())
		digits = digits[2*w:]
	}
	return n, true
}

// holdPut holds what is put of these numbers against the chapter's words.
func holdPut(t *testing.T, n [4]int) {
	t.Helper()
	for _, k := range kinds {
		s, ok := k.put(n)
		if want, wantOK := plainPut(t, k, n); s != want || ok != wantOK {
			t.Errorf("%s %v: %x %v, not %x %v", k.name, n, s, ok, want, wantOK)
		}
	}
}

// holdGet holds what is got and cut of these bytes against the chapter's words.
func holdGet(t *testing.T, s string) {
	t.Helper()
	for _, k := range kinds {
		n, ok := k.get(s)
		if want, wantOK := plainGet(k, s); n != want || ok != wantOK {
			t.Errorf("%s of %x: %v %v, not %v %v", k.name, s, n, ok, want, wantOK)
		}
		if back, _ := k.put(n); ok && back != s {
			t.Errorf("%s of %x was put back as %x", k.name, s, back)
		}
	}
	if even := len(s)/20*20 == len(s); !even {
		cutsNone(t, s)
	} else if l, ok := entry.Cut(s); len(l) != len(s)/20 || !ok || strings.Join(l, "") != s {
		t.Errorf("Cut of %x: %q %v", s, l, ok)
	}
}

// anyNumber is a number of any size, mostly not below 0, and often beside a power of 256.
func anyNumber(r *rand.Rand) int {
	switch r.Intn(8) {
	case 0:
		return -r.Intn(1 << r.Intn(60))
	case 1:
		return 1<<(8*(1+r.Intn(7))) - r.Intn(3)
	default:
		return int(r.Uint64() >> (1 + r.Intn(63)))
	}
}

func TestAnyNumbers(t *testing.T) {
	r := rand.New(rand.NewSource(7))
	for range 20000 {
		holdPut(t, [4]int{anyNumber(r), anyNumber(r), anyNumber(r), anyNumber(r)})
	}
}

func TestAnyNumbersInRange(t *testing.T) {
	r := rand.New(rand.NewSource(70))
	for range 5000 {
		for _, k := range kinds {
			n := k.greatest
			for i := range n {
				n[i] = r.Intn(n[i]+1) >> r.Intn(8*k.widths[i])
			}
			want, _ := plainPut(t, k, n)
			puts(t, k, n, want)
		}
	}
}

func TestAnyBytes(t *testing.T) {
	r := rand.New(rand.NewSource(700))
	for i := range 20000 {
		b := make([]byte, 20)
		if i%4 == 0 {
			b = make([]byte, r.Intn(90))
		}
		r.Read(b)
		holdGet(t, string(b))
	}
}

func FuzzPut(f *testing.F) {
	f.Add(0, 0, 0, 0)
	f.Add(1<<40, 258, 255, 1<<40)
	f.Add(1<<48-1, 1<<16-1, 1<<40-1, 1<<56-1)
	f.Add(1<<40-1, 1<<48-1, 1<<48-1, 1<<24-1)
	f.Add(1<<48-1, 1<<48-1, 1<<48-1, 1<<16-1)
	f.Add(1, -1, math.MaxInt, math.MinInt)
	f.Fuzz(func(t *testing.T, a, b, c, d int) { holdPut(t, [4]int{a, b, c, d}) })
}

func FuzzGet(f *testing.F) {
	for _, n := range []int{0, 19, 20, 21, 40, 41} {
		f.Add(strings.Repeat("\x00", n))
		f.Add(strings.Repeat("\xfe", n))
	}
	f.Add("abcdefghijklmnopqrst")
	f.Fuzz(func(t *testing.T, s string) { holdGet(t, s) })
}
