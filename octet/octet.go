// Package octet is layer 1: numbers and texts as bytes: see shared/doc/01-octet.md.
package octet

import "reveille/api"

const (
	widest   = 7     // more bytes than that would not fit an int that is never below 0
	longest  = 65535 // a text's length stands in two bytes
	mostMany = 255   // a list's length stands in one byte
)

// Num is numbers' bytes.
func Num(n int, l ...int) (string, api.Errno) {
	if !isWidth(n) {
		return "", api.ErrArg
	}
	b := make([]byte, 0, n*len(l))
	for _, x := range l {
		if x < 0 || x >= 1<<(8*n) {
			return "", api.ErrRange
		}
		b = appendNum(b, n, x)
	}
	return string(b), api.OK
}

// Text is texts' bytes.
func Text(l ...string) (string, api.Errno) {
	b, e := appendTexts(nil, l)
	return string(b), e
}

// List is a list's bytes.
func List(l ...string) (string, api.Errno) {
	if len(l) > mostMany {
		return "", api.ErrLong
	}
	b, e := appendTexts(appendNum(nil, 1, len(l)), l)
	return string(b), e
}

func isWidth(n int) bool { return n >= 1 && n <= widest }

// appendNum puts x, which must be a number in n bytes, behind b.
func appendNum(b []byte, n, x int) []byte {
	for n > 0 {
		n--
		b = append(b, byte(x>>(8*n)))
	}
	return b
}

// appendTexts puts the texts' bytes behind b; nothing is left of b with an error.
func appendTexts(b []byte, l []string) ([]byte, api.Errno) {
	for _, s := range l {
		if len(s) > longest {
			return nil, api.ErrLong
		}
		b = appendNum(b, 2, len(s))
		b = append(b, s...)
	}
	return b, api.OK
}

// Reader reads.
type Reader struct {
	rest string
	err  api.Errno
}

// New is what reads bytes.
func New(s string) *Reader { return &Reader{rest: s} }

// Num reads a number.
func (r *Reader) Num(n int) int {
	if r.Err() != api.OK {
		return 0
	}
	x, rest, e := cutNum(r.rest, n)
	r.goOn(rest, e)
	return x
}

// Text reads a text.
func (r *Reader) Text(most int) string {
	if r.Err() != api.OK {
		return ""
	}
	t, rest, e := cutText(r.rest, most)
	r.goOn(rest, e)
	return t
}

// List reads a list.
func (r *Reader) List(many, most int) []string {
	if r.Err() != api.OK {
		return nil
	}
	l, rest, e := cutList(r.rest, many, most)
	r.goOn(rest, e)
	return l
}

// Take reads bytes.
func (r *Reader) Take(n int) string {
	if r.Err() != api.OK {
		return ""
	}
	t, rest, e := cut(r.rest, n)
	r.goOn(rest, e)
	return t
}

// Left is how many bytes are left.
func (r *Reader) Left() int {
	if r == nil {
		return 0
	}
	return len(r.rest)
}

// Err is the first error.
func (r *Reader) Err() api.Errno {
	if r == nil {
		return api.ErrArg
	}
	return r.err
}

// End tells whether all was read.
func (r *Reader) End() api.Errno {
	if e := r.Err(); e != api.OK {
		return e
	}
	if r.Left() > 0 {
		return api.ErrForm // it isn't kept: what is left may still be read
	}
	return api.OK
}

// goOn ends a call that read: only without an error anything is gone over.
func (r *Reader) goOn(rest string, e api.Errno) {
	if e != api.OK {
		r.err = e
		return
	}
	r.rest = rest
}

// cut takes n bytes off s.
func cut(s string, n int) (string, string, api.Errno) {
	if n < 0 {
		return "", "", api.ErrArg
	}
	if n > len(s) {
		return "", "", api.ErrShort
	}
	return s[:n], s[n:], api.OK
}

// cutNum takes a number in n bytes off s.
func cutNum(s string, n int) (int, string, api.Errno) {
	if !isWidth(n) {
		return 0, "", api.ErrArg
	}
	t, rest, e := cut(s, n)
	if e != api.OK {
		return 0, "", e
	}
	x := 0
	for i := range n {
		x = x<<8 | int(t[i])
	}
	return x, rest, api.OK
}

// cutText takes a text off s.
func cutText(s string, most int) (string, string, api.Errno) {
	n, rest, e := cutNum(s, 2)
	if e != api.OK {
		return "", "", e
	}
	if n > most {
		return "", "", api.ErrLong
	}
	return cut(rest, n)
}

// cutList takes a list off s.
func cutList(s string, many, most int) ([]string, string, api.Errno) {
	n, rest, e := cutNum(s, 1)
	if e != api.OK {
		return nil, "", e
	}
	if n > many {
		return nil, "", api.ErrLong
	}
	l := make([]string, n)
	for i := range l {
		l[i], rest, e = cutText(rest, most)
		if e != api.OK {
			return nil, "", e
		}
	}
	return l, rest, api.OK
}
