package frame

import (
	"bytes"
	"encoding/binary"
	"hash/crc32"
	"math/bits"
	"slices"
	"testing"

	"theseus/api"
)

const netMagic = 0x46494231

var (
	magics   = []uint32{netMagic, 0x43525431, 0, 1, 0x80000000, 0x01020304, 0xFFFFFFFF}
	someTags = []byte{0, 1, 7, 84, 127, 128, 255}
	known    = crc32.MakeTable(crc32.Castagnoli)
)

// filled are so many bytes of all kinds, the same ones each time.
func filled(n int) []byte {
	b := make([]byte, n)
	for i := range b {
		b[i] = byte(i*i>>3 + 37*i + 11)
	}
	return b
}

// someBytes are bytes of many lengths, and such as look like parts of frames and sections.
func someBytes() [][]byte {
	rows := [][]byte{nil, {}, {0}, {255}, []byte("ab"), {7, 2, 'a', 'b'}, {0x46, 0x49, 0x42, 0x31}, make([]byte, 40), bytes.Repeat([]byte{255}, 40)}
	for size := range 35 {
		rows = append(rows, filled(size))
	}
	for _, size := range []int{127, 128, 255, 256, 1000, 1<<14 - 1, 1 << 14, 70000} {
		rows = append(rows, filled(size))
	}
	return rows
}

// framed is what the document says that Put tells.
func framed(magic uint32, b []byte) []byte {
	f := append(binary.BigEndian.AppendUint32(nil, magic), b...)
	return binary.BigEndian.AppendUint32(f, crc32.Checksum(f, known))
}

// takeTold is what the document says that Take tells, rule by rule.
func takeTold(magic uint32, b []byte) ([]byte, api.Errno) {
	if len(b) < 8 {
		return nil, api.ErrShort
	}
	if binary.BigEndian.Uint32(b) != magic {
		return nil, api.ErrMagic
	}
	ahead := b[:len(b)-4]
	if binary.BigEndian.Uint32(b[len(ahead):]) != crc32.Checksum(ahead, known) {
		return nil, api.ErrSum
	}
	return ahead[4:], api.OK
}

// groups are the bytes of a number in groups of seven bits.
func groups(n int) []byte {
	b := []byte{byte(n & 127)}
	for n >>= 7; n > 0; n >>= 7 {
		b = append(b, byte(n&127)|128)
	}
	slices.Reverse(b)
	return b
}

// openTold is what the document says that Open tells, rule by rule.
func openTold(tag byte, b []byte) (in, rest []byte, e api.Errno) {
	if len(b) == 0 {
		return nil, nil, api.ErrShort
	}
	if b[0] != tag {
		return nil, nil, api.ErrForm
	}
	follow := b[1:]
	if len(follow) > 0 && follow[0] == 128 || len(follow) >= 4 && min(follow[0], follow[1], follow[2], follow[3]) >= 128 {
		return nil, nil, api.ErrForm
	}
	end := slices.IndexFunc(follow, func(c byte) bool { return c < 128 })
	if end < 0 {
		return nil, nil, api.ErrShort
	}
	n := 0
	for _, c := range follow[:end+1] {
		n = n*128 + int(c)%128
	}
	follow = follow[end+1:]
	if len(follow) < n {
		return nil, nil, api.ErrShort
	}
	return follow[:n], follow[n:], api.OK
}

// refused tells of a Take that it is not of that error, or tells bytes beside it.
func refused(t *testing.T, magic uint32, b []byte, want api.Errno) {
	t.Helper()
	if in, e := Take(magic, b); len(in) != 0 || e != want {
		t.Errorf("Take(%08X, %x): %x, %d; want error %d", magic, b, in, e, want)
	}
}

// closed tells of an Open that it is not of that error, or tells bytes beside it.
func closed(t *testing.T, tag byte, b []byte, want api.Errno) {
	t.Helper()
	if in, rest, e := Open(tag, b); len(in) != 0 || len(rest) != 0 || e != want {
		t.Errorf("Open(%d, %x): %x, %x, %d; want error %d", tag, b, in, rest, e, want)
	}
}

// P4.1: frames that are known: the magic, the bytes, and the sum of both.
func TestPutTellsBytes(t *testing.T) {
	for _, x := range []struct {
		magic uint32
		b     string
		want  string
	}{
		{netMagic, "\x01\x54\x01\x00", "\x46\x49\x42\x31\x01\x54\x01\x00\xE7\x39\xFC\xFC"},
		{0x31323334, "56789", "123456789\xE3\x06\x92\x83"}, // the example of layer 3
		{0x46464646, "", "FFFF\xC0\x52\x1D\xFE"},
		{0, "", "\x00\x00\x00\x00\x48\x67\x4B\xC7"},
		{0xFFFFFFFF, "", "\xFF\xFF\xFF\xFF\xFF\xFF\xFF\xFF"},
		{0, string(make([]byte, 28)), string(make([]byte, 32)) + "\x8A\x91\x36\xAA"},
	} {
		if f := Put(x.magic, []byte(x.b)); string(f) != x.want {
			t.Errorf("Put(%08X, %x): %x; want %x", x.magic, x.b, f, x.want)
		}
	}
}

// P4.1: of many magics and bytes.
func TestPutIsMagicBytesAndSum(t *testing.T) {
	for _, magic := range magics {
		for _, b := range someBytes() {
			if f, want := Put(magic, b), framed(magic, b); !bytes.Equal(f, want) {
				t.Fatalf("Put(%08X) of %d bytes: %x; want %x", magic, len(b), f, want)
			}
		}
	}
}

// P4.1: what stands between magic and sum, also if that is nothing.
func TestTakeTellsWhatStandsBetween(t *testing.T) {
	if b, e := Take(0x31323334, []byte("123456789\xE3\x06\x92\x83")); string(b) != "56789" || e != api.OK {
		t.Errorf("Take of 123456789: %q, %d", b, e)
	}
	if b, e := Take(0, []byte("\x00\x00\x00\x00\x48\x67\x4B\xC7")); len(b) != 0 || e != api.OK {
		t.Errorf("Take of no bytes: %x, %d", b, e)
	}
	for _, magic := range magics {
		for _, want := range someBytes() {
			if b, e := Take(magic, framed(magic, want)); !bytes.Equal(b, want) || e != api.OK {
				t.Fatalf("Take of a frame of %x: %x, %d", want, b, e)
			}
		}
	}
}

// P4.1: fewer than 8 bytes are told ahead of all else, whatever they begin with.
func TestTakeRefusesFewBytes(t *testing.T) {
	for _, magic := range magics {
		refused(t, magic, nil, api.ErrShort)
		for size := range 8 {
			refused(t, magic, framed(magic, nil)[:size], api.ErrShort)
			refused(t, magic, framed(magic, filled(30))[:size], api.ErrShort)
			refused(t, magic, filled(size), api.ErrShort)
			refused(t, magic, make([]byte, size), api.ErrShort)
			refused(t, magic, bytes.Repeat([]byte{255}, size), api.ErrShort)
		}
	}
	refused(t, 0, make([]byte, 8), api.ErrSum) // just enough
}

// P4.1: another magic is told, wherever it is unlike, and ahead of a wrong sum.
func TestTakeRefusesMagics(t *testing.T) {
	for _, magic := range magics {
		for _, b := range [][]byte{nil, {5}, filled(30)} {
			for bit := range 32 {
				other := magic ^ 1<<bit
				refused(t, magic, framed(other, b), api.ErrMagic)
				wrong := framed(other, b)
				wrong[len(wrong)-1]++
				refused(t, magic, wrong, api.ErrMagic)
			}
		}
	}
	refused(t, netMagic, framed(0x31424946, nil), api.ErrMagic) // the lowest byte first
	refused(t, netMagic, append([]byte{0}, framed(netMagic, nil)...), api.ErrMagic)
}

// P4.1: a sum that is another one, or of other bytes than all ahead of it.
func TestTakeRefusesSums(t *testing.T) {
	for _, magic := range magics {
		for _, b := range [][]byte{{5}, []byte("ab"), filled(4), filled(30), filled(300)} {
			ahead := append(binary.BigEndian.AppendUint32(nil, magic), b...)
			sum := crc32.Checksum(ahead, known)
			for _, other := range []uint32{
				^sum, sum + 1, sum - 1, bits.ReverseBytes32(sum), crc32.Checksum(b, known), crc32.ChecksumIEEE(ahead),
				crc32.Checksum(append(slices.Clone(b), ahead[:4]...), known),
			} {
				refused(t, magic, binary.BigEndian.AppendUint32(ahead[:len(ahead):len(ahead)], other), api.ErrSum)
			}
			f := framed(magic, b)
			for at := 4; at < len(f); at++ {
				f[at]++
				refused(t, magic, f, api.ErrSum)
				f[at]--
			}
		}
	}
}

// P4.1: frames with bytes behind them, or with some left out, are none.
func TestTakeRefusesMoreAndFewerBytes(t *testing.T) {
	for _, b := range [][]byte{nil, {5}, filled(30)} {
		f := framed(netMagic, b)
		refused(t, netMagic, append(f[:len(f):len(f)], 0), api.ErrSum)
		refused(t, netMagic, append(f[:len(f):len(f)], f...), api.ErrSum)
		for end := 8; end < len(f); end++ {
			refused(t, netMagic, f[:end], api.ErrSum)
		}
	}
}

// P4.1: any bytes are told as the document says, with the sum laid right, and not.
func TestTakeOfManyBytes(t *testing.T) {
	look := func(magic uint32, b []byte) {
		got, e := Take(magic, b)
		if want, we := takeTold(magic, b); !bytes.Equal(got, want) || e != we {
			t.Fatalf("Take(%08X, %x): %x, %d; want %x, %d", magic, b, got, e, want, we)
		}
	}
	for _, magic := range magics {
		for _, b := range someBytes() {
			look(magic, b)
			for _, other := range magics {
				look(magic, framed(other, b))
			}
			if len(b) >= 4 {
				look(magic, binary.BigEndian.AppendUint32(slices.Clone(b), crc32.Checksum(b, known)))
				look(binary.BigEndian.Uint32(b), b)
			}
		}
	}
}

// P4.2: the tag, how many bytes, and these.
func TestSectionTellsBytes(t *testing.T) {
	for _, x := range []struct {
		tag  byte
		b    string
		want string
	}{
		{7, "ab", "\x07\x02ab"}, // the document's example
		{84, "\x00", "\x54\x01\x00"},
		{0, "", "\x00\x00"},
		{255, "", "\xFF\x00"},
		{128, "\x80", "\x80\x01\x80"},
		{1, string(filled(127)), "\x01\x7F" + string(filled(127))},
		{1, string(filled(128)), "\x01\x81\x00" + string(filled(128))},
		{1, string(filled(300)), "\x01\x82\x2C" + string(filled(300))},
		{1, string(filled(1<<14 - 1)), "\x01\xFF\x7F" + string(filled(1<<14-1))},
		{1, string(filled(1 << 14)), "\x01\x81\x80\x00" + string(filled(1<<14))},
		{1, string(filled(1 << 21)), "\x01\x81\x80\x80\x00" + string(filled(1<<21))},
	} {
		if s, e := Section(x.tag, []byte(x.b)); string(s) != x.want || e != api.OK {
			t.Errorf("Section(%d) of %d bytes: %.20x, %d; want %.20x", x.tag, len(x.b), s, e, x.want)
		}
	}
	for _, tag := range someTags {
		for _, b := range someBytes() {
			want := slices.Concat([]byte{tag}, groups(len(b)), b)
			if s, e := Section(tag, b); !bytes.Equal(s, want) || e != api.OK {
				t.Fatalf("Section(%d) of %d bytes: %.20x, %d; want %.20x", tag, len(b), s, e, want)
			}
		}
	}
}

// P4.2: MaxGroup bytes are a section, which is opened; one more are none.
func TestSectionOfVeryManyBytes(t *testing.T) {
	b := make([]byte, api.MaxGroup+1)
	b[api.MaxGroup-1] = 9
	s, e := Section(3, b[:api.MaxGroup])
	if e != api.OK || !bytes.HasPrefix(s, []byte{3, 255, 255, 255, 127, 0}) || len(s) != 5+api.MaxGroup || s[len(s)-1] != 9 {
		t.Errorf("Section of MaxGroup bytes: %d bytes, %d", len(s), e)
	}
	if in, rest, e := Open(3, s); e != api.OK || len(in) != api.MaxGroup || len(rest) != 0 || in[api.MaxGroup-1] != 9 {
		t.Errorf("Open of MaxGroup bytes: %d and %d bytes, %d", len(in), len(rest), e)
	}
	closed(t, 3, s[:5], api.ErrShort)
	if in, rest, e := Open(3, s[:len(s)-1]); len(in) != 0 || len(rest) != 0 || e != api.ErrShort {
		t.Errorf("Open of one byte too few: %d and %d bytes, %d", len(in), len(rest), e)
	}
	if s, e := Section(3, b); len(s) != 0 || e != api.ErrSize {
		t.Errorf("Section of more than MaxGroup bytes: %d bytes, %d", len(s), e)
	}
}

// P4.2: what is in a section, and what stands behind it.
func TestOpenTellsBothParts(t *testing.T) {
	for _, x := range []struct {
		tag         byte
		b, in, rest string
	}{
		{7, "\x07\x02ab", "ab", ""},
		{7, "\x07\x02abc", "ab", "c"},
		{7, "\x07\x02ab\x07\x01c", "ab", "\x07\x01c"},
		{7, "\x07\x00", "", ""},
		{7, "\x07\x00\x07", "", "\x07"},
		{0, "\x00\x00", "", ""},
		{0, "\x00\x01\x00\x00", "\x00", "\x00"},
		{255, "\xFF\x01\xFF\xFF", "\xFF", "\xFF"},
		{84, "\x54\x03\x54\x01\x00\x80", "\x54\x01\x00", "\x80"},
		{5, "\x05\x81\x00" + string(filled(130)), string(filled(128)), string(filled(130)[128:])},
	} {
		if in, rest, e := Open(x.tag, []byte(x.b)); string(in) != x.in || string(rest) != x.rest || e != api.OK {
			t.Errorf("Open(%d, %x): %x, %x, %d; want %x, %x", x.tag, x.b, in, rest, e, x.in, x.rest)
		}
	}
}

// P4.2: no bytes are told ahead of the tag, the tag ahead of how many bytes follow.
func TestOpenRefusesTags(t *testing.T) {
	for _, tag := range someTags {
		closed(t, tag, nil, api.ErrShort)
		closed(t, tag, []byte{}, api.ErrShort)
		for bit := range 8 {
			other := tag ^ 1<<bit
			for _, behind := range [][]byte{nil, {0}, {1}, {1, 2}, {128}, {129}, {5, tag, 0}, {255, 255, 255, 255}} {
				closed(t, tag, append([]byte{other}, behind...), api.ErrForm)
			}
		}
	}
}

// P4.2: how many bytes follow is not told, or not in its one form.
func TestOpenRefusesNumbers(t *testing.T) {
	for _, tag := range someTags {
		for _, x := range []struct {
			behind []byte
			want   api.Errno
		}{
			{nil, api.ErrShort},
			{[]byte{129}, api.ErrShort},
			{[]byte{255, 255}, api.ErrShort},
			{[]byte{255, 255, 255}, api.ErrShort},
			{[]byte{128}, api.ErrForm},
			{[]byte{128, 0}, api.ErrForm},
			{[]byte{128, 1, 9}, api.ErrForm},
			{[]byte{129, 128, 128, 128}, api.ErrForm},
			{[]byte{255, 255, 255, 255, 127}, api.ErrForm},
			{[]byte{129, 128, 128, 128, 0, 1, 2, 3}, api.ErrForm},
		} {
			closed(t, tag, append([]byte{tag}, x.behind...), x.want)
		}
	}
}

// P4.2: fewer bytes follow than the number says, down to one fewer and to none.
func TestOpenRefusesFewBytes(t *testing.T) {
	for _, size := range []int{1, 2, 5, 127, 128, 129, 300} {
		s := slices.Concat([]byte{7}, groups(size), filled(size))
		for end := range s {
			closed(t, 7, s[:end], api.ErrShort)
		}
	}
	closed(t, 7, []byte{7, 255, 255, 255, 127}, api.ErrShort)
	closed(t, 7, []byte{7, 255, 255, 255, 127, 1, 2, 3}, api.ErrShort)
}

// P4.2: all of up to six bytes at the edges are told as the document says.
func TestOpenOfAllFewBytes(t *testing.T) {
	var look func(b []byte)
	look = func(b []byte) {
		in, rest, e := Open(2, b)
		if win, wrest, we := openTold(2, b); !bytes.Equal(in, win) || !bytes.Equal(rest, wrest) || e != we {
			t.Fatalf("Open(2, %x): %x, %x, %d; want %x, %x, %d", b, in, rest, e, win, wrest, we)
		}
		if len(b) == 6 {
			return
		}
		for _, c := range []byte{0, 1, 2, 3, 128, 129, 255} {
			look(append(b[:len(b):len(b)], c))
		}
	}
	look(nil)
}

// P4.3: what was put is taken.
func TestWhatWasPutIsTaken(t *testing.T) {
	for _, magic := range magics {
		for _, want := range someBytes() {
			if b, e := Take(magic, Put(magic, want)); !bytes.Equal(b, want) || e != api.OK {
				t.Fatalf("Take of Put(%08X, %x): %x, %d", magic, want, b, e)
			}
		}
	}
}

// P4.3: what was put is opened, whatever stands behind, one in the other and one behind the other.
func TestWhatWasPutIsOpened(t *testing.T) {
	for _, tag := range someTags {
		var row []byte
		for _, b := range someBytes() {
			s, _ := Section(tag, b)
			for _, behind := range [][]byte{nil, {0}, {255, 255}, s} {
				in, rest, e := Open(tag, slices.Concat(s, behind))
				if !bytes.Equal(in, b) || !bytes.Equal(rest, behind) || e != api.OK {
					t.Fatalf("Open of Section(%d, %x) and %x: %x, %x, %d", tag, b, behind, in, rest, e)
				}
			}
			row = append(row, s...)
		}
		outer, _ := Section(tag+1, row)
		rest, behind, e := Open(tag+1, outer)
		if !bytes.Equal(rest, row) || len(behind) != 0 || e != api.OK {
			t.Fatalf("Open of sections in a section: %d and %d bytes, %d", len(rest), len(behind), e)
		}
		for _, b := range someBytes() {
			var in []byte
			if in, rest, e = Open(tag, rest); !bytes.Equal(in, b) || e != api.OK {
				t.Fatalf("a section of %d bytes in a row: %d bytes, %d", len(b), len(in), e)
			}
		}
		if len(rest) != 0 {
			t.Fatalf("%d bytes behind all sections", len(rest))
		}
	}
}

// lowFirst and highFirst turn one bit of bytes, which are gone through from the lowest bit, or the highest one, of each byte on.
func lowFirst(b []byte, bit int)  { b[bit/8] ^= 1 << (bit % 8) }
func highFirst(b []byte, bit int) { b[bit/8] ^= 128 >> (bit % 8) }

// P4.3: with any one bit turned, of the magic, the bytes or the sum, it is not taken.
func TestWithOneBitTurnedItIsNotTaken(t *testing.T) {
	for _, magic := range magics {
		for _, b := range [][]byte{nil, {0}, {255}, []byte("ab"), filled(100), make([]byte, 100)} {
			f := Put(magic, b)
			for bit := range 8 * len(f) {
				want := api.ErrMagic
				if bit >= 32 {
					want = api.ErrSum
				}
				lowFirst(f, bit)
				refused(t, magic, f, want)
				lowFirst(f, bit)
			}
		}
	}
}

// P4.3: with up to 32 bits next to each other turned ahead of the sum, all of them, it is not taken, whichever way bits are next to each other.
func TestWithBitsNextToEachOtherTurnedItIsNotTaken(t *testing.T) {
	for _, turn := range []func([]byte, int){lowFirst, highFirst} {
		for _, b := range [][]byte{nil, {0}, []byte("ab"), filled(40), make([]byte, 40)} {
			f := Put(netMagic, b)
			for from := range 8 * (len(f) - 4) {
				turned := bytes.Clone(f)
				for bit := from; bit < min(from+32, 8*(len(f)-4)); bit++ {
					turn(turned, bit)
					if in, e := Take(netMagic, turned); len(in) != 0 || e == api.OK {
						t.Fatalf("Take of %x, which was %x: %x, %d", turned, f, in, e)
					}
				}
			}
		}
	}
}

// P4.3: with some of 32 bits next to each other turned ahead of the sum, from the lowest bit of a byte on, it is not taken.
func TestWithSomeBitsTurnedItIsNotTaken(t *testing.T) {
	for _, b := range [][]byte{[]byte("ab"), filled(25), make([]byte, 25)} {
		f := Put(netMagic, b)
		for from := range 8*(len(f)-4) - 31 {
			for which := uint32(0x9E3779B9); which > 1; which -= which/50 + 1 {
				turned := bytes.Clone(f)
				for bit := range 32 {
					if which>>bit&1 == 1 {
						lowFirst(turned, from+bit)
					}
				}
				if in, e := Take(netMagic, turned); len(in) != 0 || e == api.OK {
					t.Fatalf("Take of %x, which was %x: %x, %d", turned, f, in, e)
				}
			}
		}
	}
}

// spoil writes over bytes, and over all for which there is room behind them.
func spoil(b []byte) {
	b = b[:cap(b)]
	for i := range b {
		b[i] ^= 0x55
	}
}

// R7: arguments stay as they are, with what stands behind them.
func TestArgumentsStay(t *testing.T) {
	for _, b := range [][]byte{nil, {5}, []byte("ab"), filled(40)} {
		s, _ := Section(7, b)
		wrong := Put(netMagic, b)
		wrong[4]++
		for _, arg := range [][]byte{b, Put(netMagic, b), wrong, s, append(s, 1, 2, 3)} {
			whole := slices.Concat(arg, filled(20))
			kept := bytes.Clone(whole)
			given := whole[:len(arg)] // there is room behind it, which is not the call's
			Put(netMagic, given)
			Take(netMagic, given)
			Section(7, given)
			Open(7, given)
			if !bytes.Equal(whole, kept) {
				t.Fatalf("%x changed to %x", kept, whole)
			}
		}
	}
}

// R7: what is told is the caller's own: neither changes with the other, nor do the two parts of a section.
func TestNothingIsShared(t *testing.T) {
	for _, b := range [][]byte{{}, {5}, []byte("ab"), filled(40), filled(4000)} {
		mine := bytes.Clone(b)
		f := Put(netMagic, mine)
		s, _ := Section(7, mine)
		spoil(mine)
		if want, _ := Section(7, b); !bytes.Equal(f, framed(netMagic, b)) || !bytes.Equal(s, want) {
			t.Errorf("what was put of %x changed with it: %x, %x", b, f, s)
		}
		kept := bytes.Clone(f)
		taken, _ := Take(netMagic, f)
		spoil(taken)
		if !bytes.Equal(f, kept) {
			t.Errorf("%x changed with what was taken of it: %x", kept, f)
		}
		taken, _ = Take(netMagic, f)
		spoil(f)
		if !bytes.Equal(taken, b) {
			t.Errorf("what was taken changed with its bytes: %x", taken)
		}
	}
}

// R7: so it is of what is opened, and what is put behind the one part is not seen in the other one.
func TestPartsAreNotShared(t *testing.T) {
	for _, b := range [][]byte{{}, {5}, []byte("ab"), filled(40), filled(4000)} {
		for _, behind := range [][]byte{{}, {6}, filled(30), filled(3000)} {
			s, _ := Section(7, b)
			s = append(s, behind...)
			kept := bytes.Clone(s)
			in, rest, _ := Open(7, s)
			spoil(in)
			if !bytes.Equal(rest, behind) || !bytes.Equal(s, kept) {
				t.Errorf("%x and %x changed with what is in the section", kept, behind)
			}
			in, rest, _ = Open(7, s)
			spoil(rest)
			if !bytes.Equal(in, b) || !bytes.Equal(s, kept) {
				t.Errorf("%x and %x changed with what is behind the section", kept, b)
			}
			in, rest, _ = Open(7, s)
			spoil(s)
			if !bytes.Equal(in, b) || !bytes.Equal(rest, behind) {
				t.Errorf("%x and %x changed with their bytes", b, behind)
			}
		}
	}
}

// R6: the same bytes are told the same each time, also when wrong ones were shown between.
func TestEachTimeTheSame(t *testing.T) {
	b := filled(50)
	f, again := Put(netMagic, b), Put(netMagic, b)
	if !bytes.Equal(f, again) {
		t.Errorf("Put of the same bytes: %x, then %x", f, again)
	}
	for range 3 {
		refused(t, netMagic+1, f, api.ErrMagic)
		refused(t, netMagic, f[1:], api.ErrMagic)
		if in, e := Take(netMagic, f); !bytes.Equal(in, b) || e != api.OK {
			t.Errorf("Take of the same bytes: %x, %d", in, e)
		}
	}
}
