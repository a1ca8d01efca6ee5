package rec_test

import (
	"encoding/binary"
	"hash/crc32"
	"math"
	"math/rand"
	"regexp"
	"slices"
	"strings"
	"testing"

	"reveille/api"
	"reveille/rec"
)

// What is here says the chapter's words once more, in other ways, to hold the package against.

var (
	topics = regexp.MustCompile(`^(%(retry|dead)%[a-z0-9-]{1,8}|[a-z0-9-]{1,16})$`)
	tags   = regexp.MustCompile(`^[a-z0-9-]{0,16}$`)
	keys   = regexp.MustCompile(`^[!-~]{1,16}$`)
)

// plainRight takes out of a record what it may have: it is right, if nothing is left.
func plainRight(m api.Msg) bool {
	for _, n := range []int{m.Due, m.Ref, m.Born} {
		if n < 0 || n > 1<<40 {
			return false
		}
	}
	kind := m.Kind
	m.Kind = 0
	switch kind {
	case 0:
		if len(m.Body) <= 1024 && strings.Count(m.Body, "\x00") == len(m.Body) {
			m.Body = ""
		}
	case 1, 2, 3:
		if !plainWhole(m) {
			return false
		}
		m.Queue, m.Retry, m.Born, m.Topic, m.Tag, m.Body, m.Keys = 0, 0, 0, "", "", "", nil
		if kind > 1 {
			m.Due, m.Ref = 0, 0
		}
	case 4:
		m.Born, m.Ref = 0, 0
	default:
		return false
	}
	if len(m.Keys) == 0 {
		m.Keys = nil
	}
	return equal(m, api.Msg{})
}

func plainWhole(m api.Msg) bool {
	seen := map[string]bool{}
	for _, k := range m.Keys {
		if seen[k] || !keys.MatchString(k) {
			return false
		}
		seen[k] = true
	}
	return m.Queue >= 0 && m.Queue < 3 && m.Retry >= 0 && m.Retry < 5 && topics.MatchString(m.Topic) && tags.MatchString(m.Tag) &&
		len(m.Keys) < 4 && len(m.Body) < 201
}

// plainPacked is what stands behind the sum, of numbers that need no more bytes than there are.
func plainPacked(m api.Msg) string {
	b := []byte{byte(m.Kind), byte(m.Queue), byte(m.Retry)}
	for _, n := range []int{m.Born, m.Due, m.Ref} {
		b = append(b, binary.BigEndian.AppendUint64(nil, uint64(n))[2:]...)
	}
	texts := append([]string{m.Topic, m.Tag, m.Body}, m.Keys...)
	for i, s := range texts {
		if i == 3 {
			b = append(b, byte(len(m.Keys)))
		}
		b = append(binary.BigEndian.AppendUint16(b, uint16(len(s))), s...)
	}
	if len(m.Keys) == 0 {
		b = append(b, 0)
	}
	return string(b)
}

func plainPut(m api.Msg) (string, api.Errno) {
	if !plainRight(m) || m.Kind == 0 && len(m.Body) < 3 {
		return "", api.ErrArg
	}
	if m.Kind == 0 {
		return framed("\x5a", m.Body[3:]), api.OK
	}
	return sealed(plainPacked(m)), api.OK
}

// plainGet asks in the chapter's order; whether what is sealed is a right record's is asked by whether it would be put so.
func plainGet(s string) (api.Msg, int, api.Errno) {
	if len(s) > 0 && s[0] != 0xa5 && s[0] != 0x5a {
		return api.Msg{}, 0, api.ErrForm
	}
	if len(s) < 3 {
		return api.Msg{}, 0, api.ErrShort
	}
	n := int(s[1])*256 + int(s[2])
	if n < 3 || n > 1024 && s[0] == 0x5a {
		return api.Msg{}, 0, api.ErrForm
	}
	if len(s) < n {
		return api.Msg{}, 0, api.ErrShort
	}
	if s[0] == 0x5a {
		for _, b := range []byte(s[3:n]) {
			if b != 0 {
				return api.Msg{}, 0, api.ErrForm
			}
		}
		return filler(n), n, api.OK
	}
	if n < 7 || binary.BigEndian.Uint32([]byte(s[3:7])) != crc32.ChecksumIEEE([]byte(s[7:n])) {
		return api.Msg{}, 0, api.ErrSum
	}
	m, ok := plainUnpacked([]byte(s[7:n]))
	if !ok || m.Kind == 0 || !plainRight(m) || plainPacked(m) != s[7:n] {
		return api.Msg{}, 0, api.ErrForm
	}
	return m, n, api.OK
}

// plainUnpacked tells what stands there, as far as there are bytes.
func plainUnpacked(b []byte) (m api.Msg, ok bool) {
	defer func() {
		if recover() != nil {
			m, ok = api.Msg{}, false // there are too few bytes
		}
	}()
	six := func(at int) int { return int(binary.BigEndian.Uint64(append([]byte{0, 0}, b[at:at+6]...))) }
	m = api.Msg{Kind: int(b[0]), Queue: int(b[1]), Retry: int(b[2]), Born: six(3), Due: six(9), Ref: six(15)}
	b = b[21:]
	text := func() string {
		n := int(binary.BigEndian.Uint16(b))
		s := string(b[2 : 2+n])
		b = b[2+n:]
		return s
	}
	m.Topic = text()
	m.Tag = text()
	m.Body = text()
	many := int(b[0])
	b = b[1:]
	for range many {
		m.Keys = append(m.Keys, text())
	}
	return m, true
}

// asPlain fails, if a record isn't treated as the words say.
func asPlain(t *testing.T, m api.Msg) {
	t.Helper()
	if rec.Right(m) != plainRight(m) {
		t.Fatalf("%+v: right is %t", m, rec.Right(m))
	}
	s, e := rec.Put(table, m)
	if want, wrong := plainPut(m); s != want || e != wrong {
		t.Fatalf("Put of %+v: %x, %d, not %x, %d", m, s, e, want, wrong)
	}
	if c := rec.Copy(m); !rec.Same(c, m) || !slices.Equal(c.Keys, m.Keys) {
		t.Fatalf("the copy of %+v is %+v", m, c)
	}
	if e == api.OK {
		got, n, e := rec.Get(table, s+"\xa5")
		if !rec.Same(got, m) || n != len(s) || e != api.OK {
			t.Fatalf("Get of %+v: %+v, %d, %d", m, got, n, e)
		}
	}
}

// asPlainBytes fails, if bytes aren't got as the words say: as they are, and sealed anew.
func asPlainBytes(t *testing.T, s string) {
	t.Helper()
	all := []string{s, framed("\xa5", s[:min(len(s), 65532)]), framed("\x5a", s[:min(len(s), 65532)]), sealed(s[:min(len(s), 65528)])}
	if len(s) > 7 && len(s) < 65528 {
		all = append(all, sealed(s[7:]))
	}
	for _, s := range all {
		m, n, e := rec.Get(table, s)
		if want, long, wrong := plainGet(s); !equal(m, want) || n != long || e != wrong {
			t.Fatalf("Get of %x: %+v, %d, %d, not %+v, %d, %d", s, m, n, e, want, long, wrong)
		}
		if e == api.OK && put(t, m) != s[:n] {
			t.Fatalf("%+v, got of %x, is put otherwise", m, s)
		}
	}
}

// one is one of a list, by chance: the first one far more often than the others.
func one[T any](r *rand.Rand, l ...T) T {
	if r.Intn(12) > 0 {
		return l[0]
	}
	return l[r.Intn(len(l))]
}

// anyRecord is by chance right, or wrong in one place or another.
func anyRecord(r *rand.Rand) api.Msg {
	long := strings.Repeat("k", 17)
	m := api.Msg{
		Kind:  r.Intn(5),
		Queue: one(r, r.Intn(3), -1, 3, 256),
		Retry: one(r, r.Intn(5), -1, 5, 256),
		Born:  one(r, r.Intn(1<<40+1), 0, 1<<40, 1<<40+1, -1, 1<<48, math.MinInt, math.MaxInt),
		Topic: one(r, []string{"a", "orders", "%dead%g", "%retry%x-1"}[r.Intn(4)], "", "A", "%retry%", long),
		Tag:   one(r, []string{"", "x"}[r.Intn(2)], "X", "%dead%g", long),
		Body:  one(r, strings.Repeat("\xa5", r.Intn(201)), strings.Repeat("b", 201), noughts(200)),
	}
	for range r.Intn(4) {
		m.Keys = append(m.Keys, one(r, string(rune('!'+r.Intn(94))), "a", "", " ", long, long[1:]))
	}
	m.Keys = one(r, m.Keys, []string{}, []string{"a", "b", "c", "d"}, []string{"a", "b", "a"})
	m.Due = one(r, r.Intn(1<<40+1)*(m.Kind&2), 0, 1<<40, 1<<40+1, -1)
	m.Ref = one(r, min(r.Intn(1<<40+1)*(m.Kind&6), 1<<40), 0, 1<<40, 1<<40+1, -1)
	if r.Intn(8) > 0 && m.Kind == api.Filler {
		return api.Msg{Body: one(r, noughts(r.Intn(1025)), noughts(1025), noughts(20)+"x"), Born: one(r, 0, 1)}
	}
	if r.Intn(8) > 0 && m.Kind == api.Cancel {
		return api.Msg{Kind: api.Cancel, Born: m.Born, Ref: m.Ref, Due: one(r, 0, 1), Queue: one(r, 0, 1), Body: one(r, "", "b")}
	}
	return m
}

func TestAsThePlainWords(t *testing.T) {
	r := rand.New(rand.NewSource(6))
	right := map[int]int{}
	for range 20000 {
		m := anyRecord(r)
		asPlain(t, m)
		if rec.Right(m) {
			right[m.Kind]++
		}
	}
	for kind := range 5 {
		if right[kind] < 100 {
			t.Errorf("of kind %d just %d were right", kind, right[kind])
		}
	}
}

func TestBytesAsThePlainWords(t *testing.T) {
	r := rand.New(rand.NewSource(7))
	for range 20000 {
		s, _ := plainPut(anyRecord(r))
		b := []byte(s + noughts(r.Intn(3)))
		for range r.Intn(4) {
			if len(b) > 0 {
				b[r.Intn(len(b))] = byte(one(r, r.Intn(256), 0, 1, 4, 255))
			}
		}
		if r.Intn(3) == 0 {
			b = b[:r.Intn(len(b)+1)]
		}
		asPlainBytes(t, string(b))
	}
}

func FuzzGet(f *testing.F) {
	r := rand.New(rand.NewSource(8))
	f.Add("")
	for range 30 {
		s, _ := plainPut(anyRecord(r))
		f.Add(s)
	}
	f.Fuzz(func(t *testing.T, s string) { asPlainBytes(t, s) })
}

func FuzzPut(f *testing.F) {
	f.Add(1, 2, 0, 3, 0, 7, "a", "x", "body", "K1", "K2", 2)
	f.Add(3, 0, 9, 4, 1<<40, 8, "%dead%g", "", "", "", "", 0)
	f.Add(0, 0, 0, 0, 0, 0, "", "", noughts(9), "", "", 0)
	f.Add(4, 0, 0, 0, 5, 1, "", "", "", "", "", 0)
	f.Fuzz(func(t *testing.T, kind, queue, due, retry, ref, born int, topic, tag, body, a, b string, many int) {
		l := []string{a, b, a + b, b + a}
		asPlain(t, api.Msg{Kind: kind, Queue: queue, Due: due, Retry: retry, Ref: ref, Born: born, Topic: topic, Tag: tag, Body: body, Keys: l[:min(max(many, 0), 4)]})
	})
}
