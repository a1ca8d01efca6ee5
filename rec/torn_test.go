package rec_test

import (
	"encoding/binary"
	"hash/crc32"
	"strings"
	"testing"

	"reveille/api"
	"reveille/rec"
)

// framed is bytes with a mark and their length ahead, whatever they are.
func framed(mark, s string) string {
	return mark + string(binary.BigEndian.AppendUint16(nil, uint16(len(s)+3))) + s
}

// sealed is a record's bytes of which just s is sealed, right or not.
func sealed(s string) string {
	sum := crc32.ChecksumIEEE([]byte(s))
	return framed("\xa5", string(binary.BigEndian.AppendUint32(nil, sum))+s)
}

func TestNoRecord(t *testing.T) {
	for _, c := range []struct {
		s    string
		want api.Errno
	}{
		{"", api.ErrShort},
		{"\xa5", api.ErrShort}, {"\x5a", api.ErrShort}, {"\xa5\x00", api.ErrShort}, {"\x5a\x00", api.ErrShort}, {"\xa5\xff", api.ErrShort}, {"\x5a\xff", api.ErrShort},
		{"\x00", api.ErrForm}, {"\x00\x00", api.ErrForm}, {noughts(3), api.ErrForm}, {noughts(36), api.ErrForm}, {noughts(1024), api.ErrForm},
		{"\x01", api.ErrForm}, {"\xff\xff", api.ErrForm}, {"\xa4\x00\x24", api.ErrForm}, {"\xa6", api.ErrForm}, {"\x59\x00\x03", api.ErrForm}, {"\x5b", api.ErrForm},
		{"\u00a5\x00\x03", api.ErrForm}, {"a5", api.ErrForm}, {" \xa5", api.ErrForm}, {"\x00\x5a\x00\x03", api.ErrForm},
		{"\xa5\x00\x00", api.ErrForm}, {"\xa5\x00\x01", api.ErrForm}, {"\xa5\x00\x02", api.ErrForm}, {"\xa5\x00\x02" + noughts(40), api.ErrForm},
		{"\x5a\x00\x00", api.ErrForm}, {"\x5a\x00\x01", api.ErrForm}, {"\x5a\x00\x02", api.ErrForm}, {"\x5a\x00\x02" + noughts(40), api.ErrForm},
		{"\x5a\x04\x01", api.ErrForm}, {"\x5a\x04\x01" + noughts(1022), api.ErrForm}, {"\x5a\x05\x00", api.ErrForm}, {"\x5a\xff\xff" + noughts(65532), api.ErrForm},
		{"\x5a\x04\x00", api.ErrShort}, {"\x5a\x04\x00" + noughts(1020), api.ErrShort}, {"\x5a\x00\x04", api.ErrShort}, {"\x5a\x00\x05\x01", api.ErrShort},
		{"\x5a\x00\x04\x01", api.ErrForm}, {"\x5a\x00\x06\x00\x00\x01", api.ErrForm}, {"\x5a\x00\x06\x01\x00\x00", api.ErrForm}, {"\x5a\x04\x00" + noughts(1020) + "0", api.ErrForm},
		{"\xa5\x00\x03", api.ErrSum}, {"\xa5\x00\x03" + noughts(40), api.ErrSum}, {"\xa5\x00\x04\x00", api.ErrSum}, {"\xa5\x00\x05\x00\x00", api.ErrSum}, {"\xa5\x00\x06\x00\x00\x00", api.ErrSum},
		{"\xa5\x00\x07\x00\x00\x00\x01", api.ErrSum}, {"\xa5\x00\x08" + noughts(5), api.ErrSum}, {"\xa5\x04\x01" + noughts(1022), api.ErrSum}, {"\xa5\xff\xff" + noughts(65532), api.ErrSum},
		{"\xa5\x00\x07", api.ErrShort}, {"\xa5\x00\x24" + noughts(32), api.ErrShort}, {"\xa5\xff\xff" + noughts(65531), api.ErrShort},
		{"\xa5\x00\x07\x00\x00\x00\x00", api.ErrForm}, // no bytes are sealed; their sum is 0
	} {
		refuses(t, c.s, c.want)
	}
}

func TestEachMark(t *testing.T) {
	_, all := known(t)
	for _, s := range all {
		for mark := range 256 {
			if b := byte(mark); b != 0xa5 && b != 0x5a {
				refuses(t, string([]byte{b})+s[1:], api.ErrForm)
				refuses(t, string([]byte{b}), api.ErrForm)
			}
		}
	}
}

func TestTornAtEachPlace(t *testing.T) {
	_, all := known(t)
	for _, s := range all {
		for n := range len(s) {
			refuses(t, s[:n], api.ErrShort)
		}
	}
}

// TestTornWithNoughtsBehind: a crash may leave noughts where bytes are lost.
func TestTornWithNoughtsBehind(t *testing.T) {
	_, all := known(t)
	for _, s := range all[:5] { // of a filler noughts are all that there is to lose
		for n := range len(s) {
			torn := s[:n] + noughts(len(s)-n)
			if torn == s {
				continue
			}
			for _, more := range []string{"", noughts(1024)} {
				want := api.ErrSum
				if n < 3 {
					want = api.ErrForm // a mark that is none, or a length of nought
				}
				refuses(t, torn+more, want)
			}
		}
	}
}

func TestTornWithAnotherRecordBehind(t *testing.T) {
	_, all := known(t)
	for _, s := range all {
		for _, more := range all[:5] {
			for n := 1; n < len(s); n++ {
				if m, long, e := rec.Get(table, s[:n]+more); e == api.OK || !nothing(m, long) {
					t.Fatalf("%d bytes of %x, and %x: %+v, %d, %d", n, s, more, m, long, e)
				}
			}
		}
	}
}

func TestEachByteTurned(t *testing.T) {
	_, all := known(t)
	for _, s := range all[:5] {
		for at := range len(s) {
			for turn := 1; turn < 256; turn++ {
				b := []byte(s)
				b[at] ^= byte(turn)
				n := int(binary.BigEndian.Uint16(b[1:]))
				want := api.ErrSum
				if at == 0 || n < 3 {
					want = api.ErrForm
				} else if n > len(s) {
					want = api.ErrShort
				}
				refuses(t, string(b), want)
				if want == api.ErrShort { // then there are as many as it tells
					refuses(t, string(b)+noughts(n-len(s)), api.ErrSum)
				} else {
					refuses(t, string(b)+noughts(1024), want)
				}
			}
		}
	}
}

// TestEachByteOfAFillerTurned: its length may be turned into a lesser one's, which all the bytes are there for.
func TestEachByteOfAFillerTurned(t *testing.T) {
	s := put(t, filler(20))
	for at := range len(s) {
		for turn := 1; turn < 256; turn++ {
			b := []byte(s)
			b[at] ^= byte(turn)
			n := int(binary.BigEndian.Uint16(b[1:]))
			switch {
			case b[0] == 0xa5:
				refuses(t, string(b), api.ErrSum)
			case at != 1 && at != 2 || n < 3 || n > 1024:
				refuses(t, string(b), api.ErrForm)
			case n > len(s):
				refuses(t, string(b), api.ErrShort)
			default:
				gives(t, string(b), filler(n), n)
			}
		}
	}
}

func TestSealedAndNoRightRecord(t *testing.T) {
	head, born := "\x00\x00", "\x00\x00\x00\x00\x00\x07" // of queue and Retry; a Born
	six, a, none := noughts(6), "\x00\x01a", "\x00\x00"
	great, greater, over := "\x01\x00\x00\x00\x00\x00", "\x01\x00\x00\x00\x00\x01", "\xff\xff\xff\xff\xff\xff"
	ends := a + none + none + "\x00"
	for i, c := range []struct {
		s  string
		ok bool
	}{
		{"\x01" + head + born + six + six + ends, true},
		{"\x01" + head + great + six + six + ends, true},
		{"\x02\x02\x04" + born + great + great + ends, true},
		{"\x04" + head + great + six + great + none + none + none + "\x00", true},
		{"\x01" + head + born + six + six + a + a + "\x00\xc8" + noughts(200) + "\x03" + a + "\x00\x01b" + "\x00\x01c", true},

		{"\x00" + head + six + six + six + none + none + none + "\x00", false}, // fillers aren't sealed
		{"\x00" + head + six + six + six + none + none + "\x00\x05" + noughts(5) + "\x00", false},
		{"\x05" + head + born + six + six + ends, false}, // kinds that are none
		{"\x06" + head + six + six + six + none + none + none + "\x00", false},
		{"\xff" + head + born + six + six + ends, false},
		{"\x01\x03\x00" + born + six + six + ends, false}, // numbers that may not be
		{"\x01\xff\x00" + born + six + six + ends, false},
		{"\x01\x00\x05" + born + six + six + ends, false},
		{"\x01\x00\xff" + born + six + six + ends, false},
		{"\x01" + head + greater + six + six + ends, false},
		{"\x01" + head + over + six + six + ends, false},
		{"\x01" + head + born + born + six + ends, false},
		{"\x01" + head + born + six + born + ends, false},
		{"\x02" + head + born + greater + six + ends, false},
		{"\x02" + head + born + six + over + ends, false},
		{"\x03" + head + born + six + greater + ends, false},
		{"\x04\x01\x00" + born + six + six + none + none + none + "\x00", false}, // a cancel with more
		{"\x04\x00\x01" + born + six + six + none + none + none + "\x00", false},
		{"\x04" + head + born + born + six + none + none + none + "\x00", false},
		{"\x04" + head + born + six + greater + none + none + none + "\x00", false},
		{"\x04" + head + born + six + six + a + none + none + "\x00", false},
		{"\x04" + head + born + six + six + none + a + none + "\x00", false},
		{"\x04" + head + born + six + six + none + none + a + "\x00", false},
		{"\x04" + head + born + six + six + none + none + none + "\x01" + a, false},
		{"\x01" + head + born + six + six + none + none + none + "\x00", false}, // texts that may not be
		{"\x01" + head + born + six + six + "\x00\x01A" + none + none + "\x00", false},
		{"\x01" + head + born + six + six + "\x00\x11" + strings.Repeat("a", 17) + none + none + "\x00", false},
		{"\x01" + head + born + six + six + a + "\x00\x01A" + none + "\x00", false},
		{"\x01" + head + born + six + six + a + "\x00\x11" + strings.Repeat("a", 17) + none + "\x00", false},
		{"\x01" + head + born + six + six + a + none + "\x00\xc9" + noughts(201) + "\x00", false},
		{"\x01" + head + born + six + six + a + none + none + "\x01\x00\x00", false},
		{"\x01" + head + born + six + six + a + none + none + "\x01\x00\x01 ", false},
		{"\x01" + head + born + six + six + a + none + none + "\x01\x00\x11" + strings.Repeat("k", 17), false},
		{"\x01" + head + born + six + six + a + none + none + "\x02" + a + a, false},
		{"\x01" + head + born + six + six + a + none + none + "\x04" + a + "\x00\x01b" + "\x00\x01c" + "\x00\x01d", false},
		{"\x01" + head + born + six + six + a + none + none + "\x02" + a, false}, // lengths beyond the seal
		{"\x01" + head + born + six + six + a + none + "\x00\xc8x\x00", false},
		{"\x01" + head + born + six + six + ends + "\x00", false}, // more bytes behind it
		{"\x01" + head + born + six + six + ends + a, false},
		{"\x01" + head + born + six + six + ends + noughts(2000), false},
		{"\x04" + head + great + six + great + none + none + none + "\x00\x00", false},
		{"", false}, {"\x01", false}, {noughts(28), false}, {"hello", false}, {noughts(65000), false},
	} {
		s := sealed(c.s)
		if !c.ok {
			refuses(t, s, api.ErrForm)
			refuses(t, s+"\xa5"+noughts(100), api.ErrForm)
			continue
		}
		m, n, e := rec.Get(table, s+"x")
		if n != len(s) || e != api.OK || put(t, m) != s {
			t.Errorf("row %d: %+v, %d, %d", i, m, n, e)
		}
	}
}

func TestSealedInPart(t *testing.T) {
	_, all := known(t)
	for _, s := range all[:5] {
		within := s[7:]
		if sealed(within) != s {
			t.Fatalf("%x, not %x", sealed(within), s)
		}
		for n := range len(within) {
			refuses(t, sealed(within[:n]), api.ErrForm)
		}
		for _, more := range []string{"\x00", "\x01", within, noughts(1000)} {
			refuses(t, sealed(within+more), api.ErrForm)
		}
	}
}
