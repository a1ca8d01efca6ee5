package rec_test

import (
	"encoding/hex"
	"reflect"
	"slices"
	"strings"
	"testing"

	"reveille/api"
	"reveille/crc"
	"reveille/rec"
)

// All tests here hold promise P6.1: all are what the chapter says; noughts are no record; what is torn at any place isn't either.

var table = crc.New()

func noughts(n int) string          { return strings.Repeat("\x00", n) }
func filler(n int) api.Msg          { return api.Msg{Kind: api.Filler, Body: noughts(n)} }
func keyed(l ...string) api.Msg     { return api.Msg{Kind: api.Message, Topic: "a", Keys: l} }
func equal(a, b api.Msg) bool       { return reflect.DeepEqual(a, b) }
func nothing(m api.Msg, n int) bool { return equal(m, api.Msg{}) && n == 0 }

// bytesOf is what hexadecimal digits, with blanks among them, tell.
func bytesOf(t *testing.T, digits string) string {
	t.Helper()
	b, err := hex.DecodeString(strings.ReplaceAll(digits, " ", ""))
	if err != nil {
		t.Fatal(err)
	}
	return string(b)
}

// put is the bytes of a record that is right.
func put(t *testing.T, m api.Msg) string {
	t.Helper()
	s, e := rec.Put(table, m)
	if e != api.OK || s == "" {
		t.Fatalf("Put of %+v: %q, %d", m, s, e)
	}
	return s
}

// gives fails, if s doesn't begin with just that record, of n bytes.
func gives(t *testing.T, s string, want api.Msg, n int) {
	t.Helper()
	m, long, e := rec.Get(table, s)
	if !equal(m, want) || long != n || e != api.OK {
		t.Fatalf("Get of %q: %+v, %d, %d, not %+v, %d", s, m, long, e, want, n)
	}
}

// refuses fails, if Get doesn't tell this error, and nothing else.
func refuses(t *testing.T, s string, want api.Errno) {
	t.Helper()
	if m, n, e := rec.Get(table, s); !nothing(m, n) || e != want {
		t.Fatalf("Get of %q: %+v, %d, %d, not %d", s, m, n, e, want)
	}
}

// known are records of each kind, and their bytes.
func known(t *testing.T) (list []api.Msg, all []string) {
	t.Helper()
	for _, c := range []struct {
		m      api.Msg
		digits string
	}{
		{api.Msg{Kind: api.Message, Queue: 2, Born: 258, Topic: "a-7", Tag: "t", Body: "hi\x00\xff", Keys: []string{"K1", "k"}},
			"a5 0032 40e7cd7f 01 02 00 000000000102 000000000000 000000000000 0003612d37 000174 0004686900ff 02 00024b31 00016b"},
		{api.Msg{Kind: api.Message, Topic: "a"},
			"a5 0024 0d8ccb49 01 00 00 000000000000 000000000000 000000000000 000161 0000 0000 00"},
		{api.Msg{Kind: api.Scheduled, Retry: 3, Born: 7, Due: 1 << 40, Ref: 5, Topic: "%retry%g", Tag: "x", Body: "b", Keys: []string{"~"}},
			"a5 0030 1ca6f39a 02 00 03 000000000007 010000000000 000000000005 00082572657472792567 000178 000162 01 00017e"},
		{api.Msg{Kind: api.Delivery, Queue: 1, Retry: 4, Born: 9, Due: 8, Ref: 1 << 40, Topic: "orders", Body: "\xa5", Keys: []string{"a", "b", "c"}},
			"a5 0033 02952593 03 01 04 000000000009 000000000008 010000000000 00066f7264657273 0000 0001a5 03 000161 000162 000163"},
		{api.Msg{Kind: api.Cancel, Born: 3, Ref: 66051},
			"a5 0023 66b58a0c 04 00 00 000000000003 000000000000 000000010203 0000 0000 0000 00"},
		{filler(3), "5a 0003"},
		{filler(4), "5a 0004 00"},
		{filler(20), "5a 0014 0000000000000000000000000000000000"},
	} {
		list, all = append(list, c.m), append(all, bytesOf(t, c.digits))
	}
	return list, all
}

func TestEachKindsBytes(t *testing.T) {
	list, all := known(t)
	for i, m := range list {
		if !rec.Right(m) {
			t.Errorf("row %d isn't right", i)
		}
		if s := put(t, m); s != all[i] {
			t.Errorf("row %d: %x, not %x", i, s, all[i])
		}
	}
}

func TestEachKindIsGotBack(t *testing.T) {
	list, all := known(t)
	behind := append([]string{"", "x", "\xa5", "\x5a", "\x00", noughts(2000), strings.Repeat("\xff", 2000)}, all...)
	for i, m := range list {
		for _, more := range behind {
			gives(t, all[i]+more, m, len(all[i]))
		}
	}
}

func TestATablesRecordsAreTheOthers(t *testing.T) {
	list, all := known(t)
	for i, m := range list {
		if s, e := rec.Put(crc.New(), m); s != all[i] || e != api.OK {
			t.Errorf("row %d: %x, %d", i, s, e)
		}
		if got, n, e := rec.Get(crc.New(), all[i]); !equal(got, m) || n != len(all[i]) || e != api.OK {
			t.Errorf("row %d: %+v, %d, %d", i, got, n, e)
		}
	}
}

func TestRecordsOneBehindTheOther(t *testing.T) {
	list, all := known(t)
	s := strings.Join(all, "")
	for _, m := range list {
		got, n, e := rec.Get(table, s)
		if !equal(got, m) || e != api.OK {
			t.Fatalf("%+v, %d, not %+v", got, e, m)
		}
		s = s[n:]
	}
	refuses(t, s, api.ErrShort)
}

func TestTheGreatestRecord(t *testing.T) {
	name, group := strings.Repeat("n", 16), "%retry%"+strings.Repeat("g", 8)
	m := api.Msg{
		Kind: api.Delivery, Queue: 2, Retry: 4, Due: api.MaxNum, Ref: api.MaxNum, Born: api.MaxNum,
		Topic: name, Tag: name, Body: strings.Repeat("\xa5", 200), Keys: []string{name, name[1:], group},
	}
	s := put(t, m)
	if len(s) != 3+4+3+18+18+18+202+1+18+17+17 {
		t.Errorf("%d bytes", len(s))
	}
	gives(t, s+s, m, len(s))
}

func TestFill(t *testing.T) {
	for n := 3; n <= 1024; n++ {
		s, ok := rec.Fill(n)
		if want := "\x5a" + string([]byte{byte(n >> 8), byte(n)}) + noughts(n-3); s != want || !ok {
			t.Fatalf("Fill(%d): %q, %t", n, s, ok)
		}
		if p := put(t, filler(n)); p != s {
			t.Fatalf("Put of a filler of %d: %q", n, p)
		}
		gives(t, s, filler(n), n)
		gives(t, s+"\x01", filler(n), n)
	}
	for _, n := range []int{-1 << 63, -1024, -3, -1, 0, 1, 2, 1025, 1026, 65535, 65536 + 3, 1 << 32, 1<<63 - 1} {
		if s, ok := rec.Fill(n); s != "" || ok {
			t.Errorf("Fill(%d): %d bytes, %t", n, len(s), ok)
		}
	}
}

func TestAFillerOfFewerThanThree(t *testing.T) {
	if rec.Least != 3 {
		t.Errorf("Least is %d", rec.Least)
	}
	for n := range rec.Least {
		if !rec.Right(filler(n)) {
			t.Errorf("a filler of %d isn't right", n)
		}
		if s, e := rec.Put(table, filler(n)); s != "" || e != api.ErrArg {
			t.Errorf("Put of a filler of %d: %q, %d", n, s, e)
		}
	}
}

func TestNoTable(t *testing.T) {
	list, all := known(t)
	for _, m := range append(list, api.Msg{}, api.Msg{Kind: 9}) {
		if s, e := rec.Put(nil, m); s != "" || e != api.ErrArg {
			t.Errorf("Put of %+v: %q, %d", m, s, e)
		}
	}
	for _, s := range append(all, "", "\xa5", "x", noughts(3), "\x5a\x04\x01") {
		if m, n, e := rec.Get(nil, s); !nothing(m, n) || e != api.ErrArg {
			t.Errorf("Get of %q: %+v, %d, %d", s, m, n, e)
		}
	}
}

func TestNoKeysAndAnEmptyListAreOne(t *testing.T) {
	none, empty := keyed(), keyed([]string{}...)
	empty.Keys = []string{}
	if put(t, none) != put(t, empty) || !rec.Same(none, empty) || !rec.Same(empty, none) || !rec.Same(rec.Copy(empty), none) {
		t.Error("they are two")
	}
	for _, kind := range []int{api.Filler, api.Cancel} {
		if !rec.Right(api.Msg{Kind: kind, Keys: []string{}}) {
			t.Errorf("of kind %d an empty list isn't right", kind)
		}
	}
}

func TestSame(t *testing.T) {
	list, _ := known(t)
	list = append(list, keyed("a", "b"), keyed("b", "a"), keyed("ab"), keyed("a"), keyed("a", "b", ""), api.Msg{Kind: -1})
	for i, a := range list {
		for j, b := range list {
			if rec.Same(a, rec.Copy(b)) != (i == j) {
				t.Errorf("%+v and %+v: %t", a, b, i != j)
			}
		}
	}
}

// fields changes one thing of a record each.
func fields() []func(m *api.Msg) {
	return []func(m *api.Msg){
		func(m *api.Msg) { m.Kind++ },
		func(m *api.Msg) { m.Queue++ },
		func(m *api.Msg) { m.Due++ },
		func(m *api.Msg) { m.Retry++ },
		func(m *api.Msg) { m.Ref++ },
		func(m *api.Msg) { m.Born++ },
		func(m *api.Msg) { m.Topic += "z" },
		func(m *api.Msg) { m.Tag += "z" },
		func(m *api.Msg) { m.Body += "z" },
		func(m *api.Msg) { m.Keys = append(slices.Clone(m.Keys), "z") },
		func(m *api.Msg) { m.Keys = append([]string{"z"}, m.Keys...) },
		func(m *api.Msg) { m.Topic, m.Tag = m.Tag, m.Topic },
		func(m *api.Msg) { m.Tag, m.Body = m.Body, m.Tag },
		func(m *api.Msg) { m.Due, m.Ref = m.Ref, m.Due },
		func(m *api.Msg) { m.Due, m.Born = m.Born, m.Due },
		func(m *api.Msg) { m.Queue, m.Retry = m.Retry, m.Queue },
	}
}

func TestTwoRecordsThatDifferInOneThing(t *testing.T) {
	m := api.Msg{Kind: 3, Queue: 1, Due: 2, Retry: 3, Ref: 4, Born: 5, Topic: "a", Tag: "b", Body: "c", Keys: []string{"d", "e"}}
	for i, change := range fields() {
		x := rec.Copy(m)
		change(&x)
		if rec.Same(m, x) || rec.Same(x, m) {
			t.Errorf("row %d: %+v and %+v", i, m, x)
		}
	}
	if !rec.Same(m, rec.Copy(m)) {
		t.Error("a record isn't its copy")
	}
}

func TestCopy(t *testing.T) {
	list, _ := known(t)
	for _, m := range append(list, api.Msg{}, api.Msg{Kind: -1, Keys: []string{"", "K 1", "x", "x", "y"}}) {
		if c := rec.Copy(m); !equal(c, m) {
			t.Errorf("%+v, not %+v", c, m)
		}
	}
}

func TestACopysKeysAreItsOwn(t *testing.T) {
	keys := append(make([]string, 0, 8), "a", "b")
	m := keyed(keys...)
	m.Keys = keys
	c, d := rec.Copy(m), rec.Copy(m)
	c.Keys[0] = "changed"
	c.Keys = append(c.Keys, "more")
	d.Keys = append(d.Keys[:1], "others")
	if !slices.Equal(m.Keys, []string{"a", "b"}) || !slices.Equal(keys[:3], []string{"a", "b", ""}) {
		t.Errorf("the record's keys are %q, with %q behind", m.Keys, keys[:3])
	}
	if !slices.Equal(c.Keys, []string{"changed", "b", "more"}) || !slices.Equal(d.Keys, []string{"a", "others"}) {
		t.Errorf("the copies' keys are %q and %q", c.Keys, d.Keys)
	}
	m.Keys[1] = "late"
	if c.Keys[1] != "b" {
		t.Error("the copy's keys go with the record's")
	}
}

func TestNoMemoryIsShared(t *testing.T) {
	m := keyed("b", "a", "c")
	s := put(t, m)
	rec.Right(m)
	rec.Same(m, m)
	if !slices.Equal(m.Keys, []string{"b", "a", "c"}) {
		t.Errorf("the keys were written into: %q", m.Keys)
	}
	x, _, _ := rec.Get(table, s)
	y, _, _ := rec.Get(table, s)
	x.Keys[0] = "z"
	x.Keys = append(x.Keys[:1], "z")
	if !equal(y, m) {
		t.Errorf("one got's keys go with another's: %q", y.Keys)
	}
	gives(t, s, m, len(s))
}
