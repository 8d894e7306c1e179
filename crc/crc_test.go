package crc

import (
	"bytes"
	"hash/crc32"
	"strings"
	"testing"
)

// someSums are sums at the edges of bits and bytes, and many between.
func someSums() []uint32 {
	l := []uint32{0, 0xFFFFFFFF, 0x82F63B78, ^uint32(0x82F63B78), 0x0F0F0F0F, 0xAAAAAAAA, 0x55555555}
	for bit := range 32 {
		l = append(l, 1<<bit, ^uint32(1<<bit), 1<<bit-1)
	}
	return append(l, mixed(500)...)
}

// mixed are so many numbers that look like none in particular, the same ones each time.
func mixed(n int) []uint32 {
	l := make([]uint32, n)
	s := uint32(1)
	for i := range l {
		s = s*1664525 + 1013904223
		l[i] = s ^ s>>15
	}
	return l
}

// mixedBytes are so many such bytes.
func mixedBytes(n int) []byte {
	b := make([]byte, n)
	for i, s := range mixed(n) {
		b[i] = byte(s >> 11)
	}
	return b
}

// stepTold is what the document says that Step tells, shift by shift.
func stepTold(s uint32, c byte) uint32 {
	s ^= uint32(c)
	for range 8 {
		low := s & 1
		s >>= 1
		if low == 1 {
			s ^= 0x82F63B78
		}
	}
	return s
}

// moreTold is what the document says of a sum and bytes behind it, step by step.
func moreTold(s uint32, b []byte) uint32 {
	s ^= 0xFFFFFFFF
	for _, c := range b {
		s = stepTold(s, c)
	}
	return s ^ 0xFFFFFFFF
}

// P3.1: steps that are known, and those that may be worked out by hand.
func TestStepTellsSums(t *testing.T) {
	for _, x := range []struct {
		s    uint32
		c    byte
		want uint32
	}{
		{0, 0, 0},
		{1, 1, 0}, // the byte turns the lowest bits back
		{0xFF, 0xFF, 0},
		{0x100, 0, 1}, // no lowest bit is ever 1
		{0x12345600, 0, 0x00123456},
		{0x123456A7, 0xA7, 0x00123456},
		{0xFFFFFFFF, 0xFF, 0x00FFFFFF},
		{0x80, 0, 0x82F63B78}, // just the last lowest bit is 1
		{0, 0x80, 0x82F63B78},
		{0xFFFFFF00, 0x80, 0x8209C487},
		{0, 0x40, 0x417B1DBC},
		{0, 1, 0xF26B8303},
		{0, 2, 0xE13B70F7},
		{0, 16, 0x105EC76F},
		{0, 255, 0xAD7D5351},
		{255, 0, 0xAD7D5351},
	} {
		if s := Step(x.s, x.c); s != x.want {
			t.Errorf("Step(%08X, %02X): %08X; want %08X", x.s, x.c, s, x.want)
		}
	}
}

// P3.1: of all bytes, behind sums of all kinds, Step is eight shifts.
func TestStepIsEightShifts(t *testing.T) {
	for _, s := range someSums() {
		for c := range 256 {
			if got, want := Step(s, byte(c)), stepTold(s, byte(c)); got != want {
				t.Fatalf("Step(%08X, %02X): %08X; want %08X", s, c, got, want)
			}
		}
	}
}

// P3.2: sums that are known.
func TestSumTellsSums(t *testing.T) {
	rise, fall := make([]byte, 32), make([]byte, 32)
	for i := range 32 {
		rise[i], fall[i] = byte(i), byte(31-i)
	}
	for _, x := range []struct {
		b    []byte
		want uint32
	}{
		{[]byte("123456789"), 0xE3069283}, // the document's example
		{nil, 0},
		{[]byte{}, 0},
		{[]byte("a"), 0xC1D04330},
		{[]byte("abc"), 0x364B3FB7},
		{[]byte{0}, 0x527D5351},
		{[]byte{255}, 0xFF000000},
		{[]byte{255, 255, 255, 255}, 0xFFFFFFFF},
		{make([]byte, 32), 0x8A9136AA},
		{bytes.Repeat([]byte{255}, 32), 0x62A8AB43},
		{rise, 0x46DD794E},
		{fall, 0x113FDB5C},
	} {
		if s := Sum(x.b); s != x.want {
			t.Errorf("Sum(%x): %08X; want %08X", x.b, s, x.want)
		}
	}
}

// P3.2: Sum is Step of each byte, with all bits turned ahead of it and behind: of all rows of up to two bytes, and of longer ones.
func TestSumIsStepOfEach(t *testing.T) {
	look := func(b []byte) {
		s := uint32(0xFFFFFFFF)
		for _, c := range b {
			s = Step(s, c)
		}
		if got, want := Sum(b), s^0xFFFFFFFF; got != want || want != moreTold(0, b) {
			t.Fatalf("Sum(%x): %08X; want %08X, or %08X", b, got, want, moreTold(0, b))
		}
	}
	for c := range 256 {
		look([]byte{byte(c)})
		for d := range 256 {
			look([]byte{byte(c), byte(d)})
		}
	}
	b := mixedBytes(1200)
	for end := range b {
		look(b[:end])
		look(b[end:])
	}
}

// P3.2: what others have found of the same sum, of short rows and of long ones.
func TestSumIsTheOneThatOthersKnow(t *testing.T) {
	known := crc32.MakeTable(crc32.Castagnoli)
	b := mixedBytes(1<<20 + 3)
	for _, size := range []int{0, 1, 2, 3, 4, 5, 7, 8, 9, 255, 256, 257, 4095, 4096, 65537, len(b)} {
		if s, want := Sum(b[:size]), crc32.Checksum(b[:size], known); s != want {
			t.Errorf("Sum of %d bytes: %08X; want %08X", size, s, want)
		}
		if s, want := More(0xE3069283, b[:size]), crc32.Update(0xE3069283, known, b[:size]); s != want {
			t.Errorf("More of %d bytes: %08X; want %08X", size, s, want)
		}
	}
}

// P3.2: More of the Sum of some bytes is the Sum of these and those behind them, wherever they are parted.
func TestMoreIsSumOfBoth(t *testing.T) {
	for _, b := range [][]byte{nil, {0}, {255}, []byte("123456789"), make([]byte, 70), bytes.Repeat([]byte{255}, 70), mixedBytes(300)} {
		want := Sum(b)
		for at := range len(b) + 1 {
			if s := More(Sum(b[:at]), b[at:]); s != want {
				t.Fatalf("More, of %x parted at %d: %08X; want %08X", b, at, s, want)
			}
			for to := at; to <= len(b); to += 23 {
				if s := More(More(Sum(b[:at]), b[at:to]), b[to:]); s != want {
					t.Fatalf("More, of %x parted at %d and %d: %08X; want %08X", b, at, to, s, want)
				}
			}
		}
	}
	if s := More(Sum([]byte("12345")), []byte("6789")); s != 0xE3069283 {
		t.Errorf("More of 12345 and 6789: %08X", s)
	}
}

// P3.2: each number is the sum of some bytes, so More is asked of all kinds; no bytes behind leave it as it is, and behind no bytes More is Sum.
func TestMoreOfAnySum(t *testing.T) {
	b := mixedBytes(40)
	for _, s := range someSums() {
		if n, e := More(s, nil), More(s, []byte{}); n != s || e != s {
			t.Fatalf("More(%08X) of no bytes: %08X, %08X", s, n, e)
		}
		for _, size := range []int{1, 2, 4, 40} {
			if got, want := More(s, b[:size]), moreTold(s, b[:size]); got != want {
				t.Fatalf("More(%08X, %x): %08X; want %08X", s, b[:size], got, want)
			}
		}
	}
	for size := range b {
		if s, want := More(0, b[:size]), Sum(b[:size]); s != want {
			t.Fatalf("More(0, %x): %08X; want %08X", b[:size], s, want)
		}
	}
}

// lowFirst and highFirst are the two ways to go through the bits of bytes.
func lowFirst(bit int) (at int, mask byte)  { return bit / 8, 1 << (bit % 8) }
func highFirst(bit int) (at int, mask byte) { return bit / 8, 128 >> (bit % 8) }

// P3.3: with one bit turned the sum is another one.
func TestOneBitTurnsTheSum(t *testing.T) {
	for _, b := range [][]byte{{0}, {255}, []byte("123456789"), make([]byte, 500), bytes.Repeat([]byte{255}, 500), mixedBytes(500), []byte(strings.Repeat("theseus", 70))} {
		was := Sum(b)
		for bit := range 8 * len(b) {
			at, mask := lowFirst(bit)
			b[at] ^= mask
			if s := Sum(b); s == was {
				t.Fatalf("%d bytes with bit %d turned: %08X again", len(b), bit, s)
			}
			b[at] ^= mask
		}
	}
}

// P3.3: with one bit turned, in the midst of many bytes, too.
func TestOneBitTurnsTheSumOfMany(t *testing.T) {
	b := mixedBytes(1 << 18)
	was := Sum(b)
	for bit := 0; bit < 8*len(b); bit += 8*len(b)/50 + 1 {
		at, mask := lowFirst(bit)
		b[at] ^= mask
		if s := Sum(b); s == was {
			t.Fatalf("%d bytes with bit %d turned: %08X again", len(b), bit, s)
		}
		b[at] ^= mask
	}
}

// P3.3: with up to 32 bits next to each other turned, all of them, the sum is another one, whichever way bits are next to each other.
func TestBitsNextToEachOtherTurnTheSum(t *testing.T) {
	for _, order := range []func(int) (int, byte){lowFirst, highFirst} {
		for _, b := range [][]byte{{0}, {7, 9}, []byte("12345"), make([]byte, 60), mixedBytes(60)} {
			was := Sum(b)
			for from := range 8 * len(b) {
				turned := bytes.Clone(b)
				for bit := from; bit < min(from+32, 8*len(b)); bit++ {
					at, mask := order(bit)
					turned[at] ^= mask
					if s := Sum(turned); s == was {
						t.Fatalf("%x, which was %x: %08X again", turned, b, s)
					}
				}
			}
		}
	}
}

// P3.3: with some of 32 bits next to each other turned, from the lowest bit of a byte on, the sum is another one.
func TestSomeOfBitsNextToEachOtherTurnTheSum(t *testing.T) {
	for _, b := range [][]byte{make([]byte, 12), mixedBytes(12), mixedBytes(90)} {
		was := Sum(b)
		for from := range 8*len(b) - 31 {
			for _, which := range someSums() {
				if which == 0 {
					continue
				}
				turned := bytes.Clone(b)
				for bit := range 32 {
					at, mask := lowFirst(from + bit)
					turned[at] ^= mask * byte(which>>bit&1)
				}
				if s := Sum(turned); s == was {
					t.Fatalf("%x, which was %x: %08X again", turned, b, s)
				}
			}
		}
	}
}

// P3.3: no choice of such 32 bits leaves the sum. What turning bits does to the sum adds up, bit by bit, so it is enough that none of the 32 is made up of others.
func TestNoChoiceOfBitsLeavesTheSum(t *testing.T) {
	for size := 4; size <= 40; size += 9 {
		was := Sum(make([]byte, size))
		for from := range 8*size - 31 {
			var tops [32]uint32 // of each highest bit the change that has it
			for bit := range 32 {
				b := make([]byte, size)
				at, mask := lowFirst(from + bit)
				b[at] = mask
				if !addChange(&tops, Sum(b)^was) {
					t.Fatalf("%d bytes, from bit %d on: bit %d does what others do", size, from, bit)
				}
			}
		}
	}
}

// addChange tells whether a change isn't made up of those that were added before.
func addChange(tops *[32]uint32, change uint32) bool {
	for bit := 31; bit >= 0; bit-- {
		if change>>bit&1 == 0 {
			continue
		}
		if tops[bit] == 0 {
			tops[bit] = change
			return true
		}
		change ^= tops[bit]
	}
	return false
}

// P3.3: what turning bits does to the sum adds up, on which the test above leans.
func TestChangesAddUp(t *testing.T) {
	a, b, zero := mixedBytes(77), []byte(strings.Repeat("theseus", 11)), make([]byte, 77)
	both := make([]byte, 77)
	for i := range both {
		both[i] = a[i] ^ b[i]
	}
	for size := range 78 {
		if Sum(a[:size])^Sum(b[:size])^Sum(both[:size]) != Sum(zero[:size]) {
			t.Fatalf("changes of %d bytes do not add up", size)
		}
	}
}

// R6 and R7: bytes stay as they are, and the same bytes have the same sum each time.
func TestBytesStay(t *testing.T) {
	b := mixedBytes(99)
	kept := bytes.Clone(b)
	first := Sum(b[:90])
	More(first, b[90:])
	if !bytes.Equal(b, kept) {
		t.Errorf("bytes changed: %x to %x", kept, b)
	}
	if again := Sum(b[:90]); again != first {
		t.Errorf("the sum changed: %08X to %08X", first, again)
	}
}
