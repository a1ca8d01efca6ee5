package keyx_test

import (
	"fmt"
	"math"
	"slices"
	"strings"
	"testing"

	"reveille/api"
	"reveille/disk"
	"reveille/keyx"
)

// All tests of this package hold promise P11.1: all are what the chapter says.

const buckets = 8

// item is what is added.
type item struct {
	topic, key string
	at, born   int
}

// number is a key's number, as chapters 3 and 11 say it.
func number(topic, key string) int {
	n := 0
	for _, b := range []byte(topic + "#" + key) {
		n = (n*31 + int(b)) % (1 << 32)
	}
	return n
}

func (v item) number() int { return number(v.topic, v.key) }
func (v item) bucket() int { return v.number() % buckets }

func fresh(t *testing.T, d *disk.Disk) *keyx.Index {
	t.Helper()
	x, e := keyx.New(d)
	if e != api.OK || x == nil {
		t.Fatalf("New: %v, %d", x, e)
	}
	return x
}

// empty is an index without entries, and its disk.
func empty(t *testing.T) (*disk.Disk, *keyx.Index) {
	t.Helper()
	d := disk.New(1 << 20)
	return d, fresh(t, d)
}

func add(t *testing.T, x *keyx.Index, l ...item) {
	t.Helper()
	for _, v := range l {
		if e := x.Add(v.topic, v.key, v.at, v.born); e != api.OK {
			t.Fatalf("Add of %+v: %d", v, e)
		}
	}
}

// finds fails, if other places are found, or none is found for a reason.
func finds(t *testing.T, x *keyx.Index, topic, key string, least, most int, want ...int) {
	t.Helper()
	if l, e := x.Find(topic, key, least, most); e != api.OK || !slices.Equal(l, want) {
		t.Fatalf("Find of %q, %q, from %d on, %d: %v, %d, not %v", topic, key, least, most, l, e, want)
	}
}

// sought is what Find is to tell of an index of these entries.
func sought(all []item, topic, key string, least, most int) []int {
	var l []int
	for _, v := range slices.Backward(all) {
		if v.bucket() != number(topic, key)%buckets {
			continue
		}
		if v.at < least || len(l) >= most {
			break
		}
		if v.number() == number(topic, key) {
			l = append(l, v.at)
		}
	}
	return l
}

// chain is what Chain is to tell of it.
func chain(all []item, bucket int) []int {
	var l []int
	for i, v := range slices.Backward(all) {
		if v.bucket() == bucket {
			l = append(l, i+1)
		}
	}
	return l
}

// in is a number in n bytes.
func in(n, v int) string {
	var b []byte
	for range n {
		b = append(b, byte(v%256))
		v /= 256
	}
	slices.Reverse(b)
	return string(b)
}

// files is the files of an index of these entries, with what stands in them: each entry tells the number of the one ahead of it in its bucket, each bucket that of its last one.
func files(all ...item) []string {
	var links, slots strings.Builder
	var last [buckets]int
	for i, v := range all {
		links.WriteString(in(5, v.number()) + in(6, v.at) + in(6, v.born) + in(3, last[v.bucket()]))
		last[v.bucket()] = i + 1
	}
	for _, n := range last {
		slots.WriteString(in(3, n))
	}
	return []string{"x-links", links.String(), "x-slots", slots.String()}
}

// holds fails, if a disk's files, or the bytes in them, are others than these: of name, bytes, name, bytes ..
func holds(t *testing.T, d *disk.Disk, l ...string) {
	t.Helper()
	if want := with(t, 1<<24, l...); !d.Same(want) {
		for _, f := range d.List("") {
			s, e := d.All(f)
			t.Logf("%q: %q, %d", f, s, e)
		}
		t.Fatalf("it doesn't hold %q", l)
	}
}

// with is a disk with files, synced.
func with(t *testing.T, capacity int, l ...string) *disk.Disk {
	t.Helper()
	d := disk.New(capacity)
	for i := 0; i < len(l); i += 2 {
		e, w, s := d.Create(l[i]), d.Write(l[i], 0, l[i+1]), d.Sync(l[i])
		if e != api.OK || w != api.OK || s != api.OK {
			t.Fatalf("%q: %d, %d, %d", l[i], e, w, s)
		}
	}
	return d
}

// is fails, if an index, with a disk of its own, isn't of these entries.
func is(t *testing.T, d *disk.Disk, x *keyx.Index, all ...item) {
	t.Helper()
	holds(t, d, files(all...)...)
	tells(t, x, all...)
}

// tells fails, if an index tells other things than of these entries.
func tells(t *testing.T, x *keyx.Index, all ...item) {
	t.Helper()
	if x.Len() != len(all) {
		t.Fatalf("Len: %d, not %d", x.Len(), len(all))
	}
	for b := range buckets {
		if l, want := x.Chain(b), chain(all, b); !slices.Equal(l, want) {
			t.Fatalf("Chain of %d: %v, not %v", b, l, want)
		}
	}
	asked := map[[2]string]bool{}
	for _, v := range all {
		if name := [2]string{v.topic, v.key}; !asked[name] {
			asked[name] = true
			finds(t, x, v.topic, v.key, 0, math.MaxInt, sought(all, v.topic, v.key, 0, math.MaxInt)...)
		}
	}
}

func TestExample(t *testing.T) {
	d, x := empty(t)
	add(t, x, item{"a", "k", 5, 0}, item{"a", "k", 9, 0})
	finds(t, x, "a", "k", 0, 32, 9, 5)
	is(t, d, x, item{"a", "k", 5, 0}, item{"a", "k", 9, 0})
}

func TestManyEntriesOfSeveralTopicsAndKeys(t *testing.T) {
	d, x := empty(t)
	topics := []string{"a", "ab", "%retry%g", "%dead%g", strings.Repeat("z", 16)}
	keys := []string{"k", "K", "k#", "#", "!", "~", "k1", strings.Repeat("~", 16)}
	var all []item
	used := map[int]bool{}
	for i := range 1000 {
		v := item{topics[i*i%len(topics)], keys[i*7%11%len(keys)], 41 * i, 1000 + i/3}
		add(t, x, v)
		all = append(all, v)
		used[v.bucket()] = true
		if i < 50 || i%100 == 99 {
			is(t, d, x, all...)
		}
	}
	if len(used) < 6 {
		t.Errorf("just %d buckets were used", len(used))
	}
	for i, v := range all {
		least, most := 41*i-41*(i%150), i%40
		finds(t, x, v.topic, v.key, least, most, sought(all, v.topic, v.key, least, most)...)
	}
	finds(t, x, "a", "none", 0, 99)
	finds(t, x, "none", "k", 0, 99)
}

func TestAnIndexWithoutEntries(t *testing.T) {
	d, x := empty(t)
	holds(t, d, "x-links", "", "x-slots", strings.Repeat("\x00", 24))
	if x.Len() != 0 {
		t.Errorf("Len: %d", x.Len())
	}
	for b := range buckets {
		if l := x.Chain(b); len(l) != 0 {
			t.Errorf("Chain of %d: %v", b, l)
		}
	}
	for _, n := range []int{math.MinInt, -1, 0, 1, math.MaxInt} {
		finds(t, x, "a", "k", n, n)
		finds(t, x, "", "", 0, n)
	}
}

// TestTheBytes: those of a bucket's first entry, and of its second, one by one; between them stands an entry of another bucket.
func TestTheBytes(t *testing.T) {
	d, x := empty(t)
	add(t, x, item{"a", "k", 5, 258}) // 94409: 170C9, of bucket 1
	first := "\x00\x00\x01\x70\xc9" + "\x00\x00\x00\x00\x00\x05" + "\x00\x00\x00\x00\x01\x02" + "\x00\x00\x00"
	slots := []byte(strings.Repeat("\x00", 24))
	slots[5] = 1
	holds(t, d, "x-links", first, "x-slots", string(slots))
	add(t, x, item{"a", "j", 7, 3}) // 94408, of bucket 0
	other := "\x00\x00\x01\x70\xc8" + "\x00\x00\x00\x00\x00\x07" + "\x00\x00\x00\x00\x00\x03" + "\x00\x00\x00"
	slots[2] = 2
	holds(t, d, "x-links", first+other, "x-slots", string(slots))
	add(t, x, item{"a", "k", 1 << 40, 1 << 40})
	second := "\x00\x00\x01\x70\xc9" + "\x01\x00\x00\x00\x00\x00" + "\x01\x00\x00\x00\x00\x00" + "\x00\x00\x01"
	slots[5] = 3
	holds(t, d, "x-links", first+other+second, "x-slots", string(slots))
	add(t, x, item{"a", "k", 0, 0})
	slots[5] = 4
	holds(t, d, "x-links", first+other+second+"\x00\x00\x01\x70\xc9"+strings.Repeat("\x00", 14)+"\x03", "x-slots", string(slots))
}

// TestKeysOfOneBucket: each is found, though their entries stand in one chain.
func TestKeysOfOneBucket(t *testing.T) {
	for b := range buckets {
		var all []item
		for i := 0; len(all) < 30; i++ {
			if v := (item{"a", fmt.Sprint("key-", i), 10 * i, i}); v.bucket() == b {
				all = append(all, v, item{v.topic, v.key, v.at + 3, v.born})
			}
		}
		d, x := empty(t)
		add(t, x, all...)
		add(t, x, all...)
		all = append(all, all...)
		is(t, d, x, all...)
		if l := x.Chain(b); len(l) != len(all) || l[0] != len(all) || l[len(l)-1] != 1 {
			t.Errorf("Chain of %d: %v", b, l)
		}
		v := all[6]
		finds(t, x, v.topic, v.key, 0, 99, v.at+3, v.at, v.at+3, v.at)
	}
}

// TestKeysWithOneNumber: of unlike ones all are told, whichever is sought; of a text that is no topic, or no key, too.
func TestKeysWithOneNumber(t *testing.T) {
	for _, l := range [][3]item{
		{{topic: "a", key: "Aa"}, {topic: "a", key: "BB"}, {topic: "a", key: "AA"}},
		{{topic: "an", key: "k"}, {topic: "c0", key: "k"}, {topic: "co", key: "k"}},
		{{topic: "a", key: "b#c"}, {topic: "a#b", key: "c"}, {topic: "a", key: "c#b"}},
		{{topic: "a", key: "#"}, {topic: "a#", key: ""}, {topic: "a", key: "##"}},
	} {
		one, same, other := l[0], l[1], l[2]
		if one.number() != same.number() || one.number() == other.number() {
			t.Fatalf("%v: the numbers aren't so", l)
		}
		_, x := empty(t)
		for i := range 6 {
			one.at, same.at = 10*i, 10*i+1
			add(t, x, one)
			if e := x.Add(same.topic, same.key, same.at, 0); strings.Contains(same.topic, "#") {
				if e != api.ErrName {
					t.Fatalf("Add to %q: %d", same.topic, e)
				}
				add(t, x, item{one.topic, one.key, same.at, 0})
			} else if e != api.OK {
				t.Fatalf("Add of %+v: %d", same, e)
			}
		}
		for _, v := range []item{one, same} {
			finds(t, x, v.topic, v.key, 20, 99, 51, 50, 41, 40, 31, 30, 21, 20)
			finds(t, x, v.topic, v.key, 0, 3, 51, 50, 41)
		}
		finds(t, x, other.topic, other.key, 0, 99)
	}
}

func TestUnlikeTopics(t *testing.T) {
	d, x := empty(t)
	var all []item
	for i := range 20 {
		for j, topic := range []string{"a", "b", "%retry%a", "%dead%a"} {
			all = append(all, item{topic, "k", 10*i + j, i})
		}
	}
	add(t, x, all...)
	is(t, d, x, all...)
	for j, topic := range []string{"a", "b", "%retry%a", "%dead%a"} {
		finds(t, x, topic, "k", 0, 3, 190+j, 180+j, 170+j)
	}
}

func TestMost(t *testing.T) {
	_, x := empty(t)
	for i := range 5 {
		add(t, x, item{"a", "k", 10 * i, 0}, item{"a", "s", 10 * i, 0}) // of one bucket
	}
	want := []int{40, 30, 20, 10, 0}
	for _, most := range []int{0, 1, 2, 4, 5, 6, 32, math.MaxInt} {
		finds(t, x, "a", "k", 0, most, want[:min(most, 5)]...)
		finds(t, x, "a", "s", 0, most, want[:min(most, 5)]...)
		finds(t, x, "a", "k", 20, most, want[:min(most, 3)]...)
	}
	for _, most := range []int{math.MinInt, -1} {
		finds(t, x, "a", "k", 0, most)
		finds(t, x, "b", "k", 0, most)
	}
}

func TestLeast(t *testing.T) {
	_, x := empty(t)
	for _, at := range []int{0, 41, 82, 82, 123} {
		add(t, x, item{"a", "k", at, 0})
	}
	for _, c := range []struct {
		least int
		want  []int
	}{
		{math.MinInt, []int{123, 82, 82, 41, 0}}, {-1, []int{123, 82, 82, 41, 0}}, {0, []int{123, 82, 82, 41, 0}}, {1, []int{123, 82, 82, 41}},
		{40, []int{123, 82, 82, 41}}, {41, []int{123, 82, 82, 41}}, {42, []int{123, 82, 82}}, {82, []int{123, 82, 82}}, {83, []int{123}}, {123, []int{123}}, {124, nil}, {math.MaxInt, nil},
	} {
		finds(t, x, "a", "k", c.least, 99, c.want...)
		finds(t, x, "a", "k", c.least, 2, c.want[:min(len(c.want), 2)]...)
	}
}

// TestLeastOfTheBucket: another key's entry of the same bucket that lies below least ends it, too; one of another bucket doesn't.
func TestLeastOfTheBucket(t *testing.T) {
	k, s, other := item{topic: "a", key: "k"}, item{topic: "a", key: "s"}, item{topic: "a", key: "j"}
	if k.bucket() != s.bucket() || k.number() == s.number() || k.bucket() == other.bucket() {
		t.Fatal("the buckets aren't so")
	}
	at := func(v item, at int) item { return item{v.topic, v.key, at, 0} }
	_, x := empty(t)
	add(t, x, at(k, 100), at(k, 50), at(s, 20), at(other, 0), at(k, 70), at(s, 60))
	for _, c := range []struct {
		least int
		want  []int
	}{
		{0, []int{70, 50, 100}}, {20, []int{70, 50, 100}}, {21, []int{70}}, {50, []int{70}}, {60, []int{70}}, {61, nil}, {70, nil}, {100, nil},
	} {
		finds(t, x, "a", "k", c.least, 99, c.want...)
	}
	finds(t, x, "a", "s", 20, 99, 60, 20)
	finds(t, x, "a", "s", 21, 99, 60)
	finds(t, x, "a", "j", 0, 99, 0)
}

// TestPlacesThatDoNotRise: entries are told in the order in which they were added, the last one first.
func TestPlacesThatDoNotRise(t *testing.T) {
	d, x := empty(t)
	var all []item
	for i, at := range []int{50, 10, 90, 90, 0, 70, 20, 80} {
		all = append(all, item{"a", "k", at, 8 - i})
	}
	add(t, x, all...)
	is(t, d, x, all...)
	for least, want := range map[int][]int{0: {80, 20, 70, 0, 90, 90, 10, 50}, 1: {80, 20, 70}, 20: {80, 20, 70}, 21: {80}, 80: {80}, 81: nil, 90: nil} {
		finds(t, x, "a", "k", least, 99, want...)
	}
}

func TestGreatestAndLeast(t *testing.T) {
	d, x := empty(t)
	var all []item
	for _, at := range []int{0, 1, 1<<32 - 1, 1 << 32, 1<<40 - 1, 1 << 40} {
		for _, born := range []int{0, 1, 1<<40 - 1, 1 << 40} {
			all = append(all, item{"a", "k", at, born})
		}
	}
	add(t, x, all...)
	is(t, d, x, all...)
	finds(t, x, "a", "k", 1<<40, 2, 1<<40, 1<<40)
	for _, n := range []int{math.MinInt, -1 << 41, -1, 1<<40 + 1, 1 << 48, math.MaxInt} {
		for _, v := range []item{{"a", "k", n, 0}, {"a", "k", 0, n}, {"a", "k", n, n}, {"a", "k", n, 1 << 40}, {"a", "k", 1 << 40, n}} {
			if e := x.Add(v.topic, v.key, v.at, v.born); e != api.ErrArg {
				t.Errorf("Add of %+v: %d", v, e)
			}
		}
	}
	is(t, d, x, all...)
}

func TestBuckets(t *testing.T) {
	d, x := empty(t)
	var all []item
	for i := range 24 { // the numbers of keys of one sign follow one another: three of each bucket
		all = append(all, item{"a", string(rune('a' + i)), i, i})
	}
	add(t, x, all...)
	is(t, d, x, all...)
	for b := range buckets {
		if l := x.Chain(b); len(l) != 3 || l[0] != l[1]+8 || l[1] != l[2]+8 || all[l[0]-1].bucket() != b {
			t.Errorf("Chain of %d: %v", b, l)
		}
	}
	for _, b := range []int{math.MinInt, -8, -1, 8, 9, 16, 256, math.MaxInt} {
		if l := x.Chain(b); len(l) != 0 {
			t.Errorf("Chain of %d: %v", b, l)
		}
	}
}

// TestBucketsThatThereAreNot: not even where there are bytes, neither behind the last bucket, nor where three times a bucket is no int any more, and would be 1.
func TestBucketsThatThereAreNot(t *testing.T) {
	d, x := empty(t)
	add(t, x, item{"a", "j", 0, 0}) // of bucket 0
	add(t, x, slices.Repeat([]item{{"a", "k", 1, 0}}, 300)...)
	if e := d.Write("x-slots", 24, "\x00\x00\x01"); e != api.OK {
		t.Fatal(e)
	}
	for _, b := range []int{8, -6148914691236517205} {
		if l := x.Chain(b); len(l) != 0 {
			t.Errorf("Chain of %d: %d entries", b, len(l))
		}
	}
}

// TestAsManyAsThereIsRoomFor: their numbers need all three bytes.
func TestAsManyAsThereIsRoomFor(t *testing.T) {
	const capacity = 1 << 24
	n := (capacity - 24) / 20
	d := disk.New(capacity)
	x := fresh(t, d)
	k, other := item{"a", "k", 3, 0}, item{"a", "j", 4, 0}
	for i := range n {
		v := k
		if i%1000 == 0 {
			v = other
		}
		if e := x.Add(v.topic, v.key, v.at, v.born); e != api.OK {
			t.Fatalf("Add %d: %d", i, e)
		}
	}
	if e := x.Add("a", "k", 3, 0); e != api.ErrFull || x.Len() != n {
		t.Errorf("Add: %d; Len: %d", e, x.Len())
	}
	next, seen := n, 0
	for _, at := range x.Chain(k.bucket()) {
		if next%1000 == 1 { // that of the other one
			next--
		}
		if at != next {
			t.Fatalf("Chain: %d, not %d", at, next)
		}
		next--
		seen++
	}
	l := x.Chain(other.bucket())
	if seen+len(l) != n || l[0] != (n-1)/1000*1000+1 || l[len(l)-1] != 1 {
		t.Errorf("Chain: %d of one bucket, and %v of the other", seen, l)
	}
	if l, e := x.Find("a", "k", 0, math.MaxInt); len(l) != seen || e != api.OK {
		t.Errorf("Find: %d, %d", len(l), e)
	}
	finds(t, x, "a", "j", 0, 3, 4, 4, 4)
}

func TestNewDeletesWhatThereIs(t *testing.T) {
	others := []string{"x", "z", "X-links", "1", "ax-", "2", "", "3", "q-a.0-00000000", "4", "w-slots", "5"}
	d := with(t, 1<<20, append([]string{"x-", "x", "x-links", "old", "x-slots", strings.Repeat("\x01", 50), "x-slots2", "y", "x-\xff", ""}, others...)...)
	if d.Write("x-links", 1, "waits") != api.OK || d.Write("x", 1, "waits") != api.OK {
		t.Fatal("Write")
	}
	others[1] = "zwaits"
	d.Fuse(4) // of one call, and both files, and the noughts
	x := fresh(t, d)
	d.Fuse(-1)
	holds(t, d, append(others, files()...)...)
	tells(t, x)
	v := item{"a", "k", 5, 6}
	add(t, x, v)
	holds(t, d, append(others, files(v)...)...)
	tells(t, x, v)
	again := fresh(t, d)
	holds(t, d, append(others, files()...)...)
	tells(t, again)
}

// TestCallsOfNew: where there are no files of an index there is nothing to delete.
func TestCallsOfNew(t *testing.T) {
	for _, c := range []struct {
		calls int
		l     []string
	}{{3, nil}, {3, []string{"x", "y", "w-slots", "z"}}, {4, []string{"x-", ""}}, {4, []string{"x-a", "b", "x-c", "d", "x-links", "e"}}} {
		d := with(t, 1<<20, c.l...)
		d.Fuse(c.calls)
		fresh(t, d)
		if d.Sync() != api.ErrDown {
			t.Errorf("of %q: there were fewer calls than %d", c.l, c.calls)
		}
	}
}

// TestWhatIsAnsweredIsNobodyElses: neither an answer that is written into, nor one that is added to, changes the index.
func TestWhatIsAnsweredIsNobodyElses(t *testing.T) {
	d, x := empty(t)
	all := []item{{"a", "k", 5, 1}, {"a", "k", 9, 2}, {"a", "k", 7, 3}}
	add(t, x, all...)
	for range 2 {
		l, _ := x.Find("a", "k", 0, 99)
		clear(l)
		clear(append(l[:1], 1, 2, 3, 4))
		c := x.Chain(1)
		clear(c)
		clear(append(c[:1], 1, 2, 3, 4))
		is(t, d, x, all...)
	}
}

func TestNil(t *testing.T) {
	if x, e := keyx.New(nil); x != nil || e != api.ErrArg {
		t.Errorf("New: %v, %d", x, e)
	}
	var x *keyx.Index
	for i, topic := range []string{"a", "", "A"} {
		n := 5 - 6*i // right ones, and wrong ones
		if e := x.Add(topic, topic, n, n); e != api.ErrArg {
			t.Errorf("Add: %d", e)
		}
		if l, e := x.Find(topic, topic, n, n); len(l) != 0 || e != api.ErrArg {
			t.Errorf("Find: %v, %d", l, e)
		}
		if x.Len() != 0 || len(x.Chain(n)) != 0 {
			t.Errorf("it has %d entries, and %v", x.Len(), x.Chain(n))
		}
	}
}

// TestWhatNewDidNotMake: such an index has no disk; nothing panics.
func TestWhatNewDidNotMake(t *testing.T) {
	x := &keyx.Index{}
	if e := x.Add("a", "k", 0, 0); e != api.ErrArg || x.Len() != 0 {
		t.Errorf("Add: %d", e)
	}
	if l, e := x.Find("a", "k", 0, 1); len(l) != 0 || e != api.ErrArg {
		t.Errorf("Find: %v, %d", l, e)
	}
	if l := x.Chain(0); len(l) != 0 {
		t.Errorf("Chain: %v", l)
	}
}

func TestNamesThatMayNotBe(t *testing.T) {
	d, x := empty(t)
	d.Fuse(0)
	for _, topic := range []string{"", " ", "A", "a b", "a#b", "a#", "#", "é", "\x00", strings.Repeat("a", 17), "%", "%retry%", "%dead%", "%retry%G", "%dead%123456789", "%other%g", "retry%g"} {
		if e := x.Add(topic, "k", 0, 0); e != api.ErrName {
			t.Errorf("Add to %q: %d", topic, e)
		}
		finds(t, x, topic, "k", 0, 99)
	}
	for _, key := range []string{"", " ", "k ", "a b", "\x00", "\x7f", "é", "\n", "\xff", strings.Repeat("k", 17)} {
		if e := x.Add("a", key, 0, 0); e != api.ErrName {
			t.Errorf("Add of %q: %d", key, e)
		}
		finds(t, x, "a", key, 0, 99)
	}
	is(t, d, x)
}

func TestNamesThatMayBe(t *testing.T) {
	for _, topic := range []string{"a", "0", "-", strings.Repeat("z", 16), "%retry%g", "%dead%12345678"} {
		for _, key := range []string{"!", "~", "#", "A", "%retry%g", strings.Repeat("k", 16)} {
			d, x := empty(t)
			v := item{topic, key, 7, 8}
			add(t, x, v)
			is(t, d, x, v)
			finds(t, x, topic, key, 7, 1, 7)
		}
	}
}
