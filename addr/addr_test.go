package addr

import (
	"fmt"
	"math"
	"strconv"
	"strings"
	"testing"

	"theseus/api"
)

// someAddresses are addresses of all kinds: each byte in each place, each bit alone, the first ones up to each, and many between.
func someAddresses() []uint32 {
	var all []uint32
	for i := range uint32(32) {
		all = append(all, 1<<i, ^uint32(1<<i), 1<<i-1, ^uint32(1<<i-1), 0x0A000102^1<<i)
	}
	for place := range 4 {
		for b := range uint32(256) {
			all = append(all, b<<(8*place), 0x01020304&^(255<<(8*place))|b<<(8*place))
		}
	}
	edges := []uint32{0, 1, 9, 10, 99, 100, 200, 255}
	for _, b := range edges {
		for _, c := range edges {
			for _, d := range edges {
				for _, e := range edges {
					all = append(all, b<<24|c<<16|d<<8|e)
				}
			}
		}
	}
	for i := range uint32(5000) {
		all = append(all, i*2654435761+i>>3)
	}
	return all
}

// printTold is what the document says that Print tells.
func printTold(a uint32) string {
	return fmt.Sprintf("%d.%d.%d.%d", a/0x1000000, a/0x10000%256, a/0x100%256, a%256)
}

// parseTold is what the document says that Parse tells: of a text that is some address's it tells that one, of others the error.
func parseTold(s string) (uint32, api.Errno) {
	pieces := strings.Split(s, ".")
	if len(pieces) != 4 {
		return 0, api.ErrText
	}
	a := 0
	for _, piece := range pieces {
		n, err := strconv.Atoi(piece)
		if err != nil || n < 0 || n > 255 || strconv.Itoa(n) != piece {
			return 0, api.ErrText
		}
		a = a*256 + n
	}
	return uint32(a), api.OK
}

// parses tells of a Parse that is not as the document says.
func parses(t *testing.T, s string) {
	t.Helper()
	want, wantE := parseTold(s)
	if a, e := Parse(s); a != want || e != wantE {
		t.Errorf("Parse(%.80q): %08X, %d; want %08X, %d", s, a, e, want, wantE)
	}
}

// P5.1: addresses whose texts are known, the document's among them, and back.
func TestPrintAndParseTellWhatIsKnown(t *testing.T) {
	for _, x := range []struct {
		a    uint32
		text string
	}{
		{0x0A000102, "10.0.1.2"},
		{0, "0.0.0.0"},
		{1, "0.0.0.1"},
		{0x100, "0.0.1.0"},
		{0x10000, "0.1.0.0"},
		{0x1000000, "1.0.0.0"},
		{0x01020304, "1.2.3.4"},
		{0x04030201, "4.3.2.1"},
		{0x7F000001, "127.0.0.1"},
		{0x80000000, "128.0.0.0"},
		{0x7FFFFFFF, "127.255.255.255"},
		{0xFFFFFFFF, "255.255.255.255"},
		{0xFFFFFFFE, "255.255.255.254"},
		{0xC0A80A64, "192.168.10.100"},
		{0x090A6364, "9.10.99.100"},
		{0xC7C8F9FA, "199.200.249.250"},
	} {
		if s := Print(x.a); s != x.text {
			t.Errorf("Print(%08X): %q; want %q", x.a, s, x.text)
		}
		if a, e := Parse(x.text); a != x.a || e != api.OK {
			t.Errorf("Parse(%q): %08X, %d; want %08X", x.text, a, e, x.a)
		}
	}
}

// P5.1: of many addresses, and Parse tells the address of what Print tells.
func TestPrintIsFourBytesAndParseIsItsOtherWay(t *testing.T) {
	for _, a := range someAddresses() {
		s := Print(a)
		if s != printTold(a) {
			t.Errorf("Print(%08X): %q; want %q", a, s, printTold(a))
		}
		if back, e := Parse(s); back != a || e != api.OK {
			t.Errorf("Parse(%q): %08X, %d; want %08X", s, back, e, a)
		}
	}
}

// P5.1: what is no address's text, of each kind, tells ErrText, and (R2) no address beside it.
func TestParseRefuses(t *testing.T) {
	long := strings.Repeat("1", 100000)
	for _, s := range []string{
		"", " ", ".", "..", "...", "....", "0", "00", "1", "1.", "1.2", "1.2.", "1.2.3", "1.2.3.", ".2.3.4", "1..3.4", "1.2..4", "1.2.3..4", "1...4",
		"1.2.3.4.", ".1.2.3.4", "1.2.3.4.5", "1.2.3.4.5.6.7.8", "0.0.0.0.0", "1.2.3.4 ", " 1.2.3.4", "1.2.3.4\n", "\n1.2.3.4", "1. 2.3.4", "1.2.3.4\x00", "\x001.2.3.4", "1.2.3.4/32",
		"256.0.0.0", "0.256.0.0", "0.0.256.0", "0.0.0.256", "257.0.0.0", "260.0.0.0", "300.0.0.0", "999.0.0.0", "0.0.0.999", "1000.0.0.0", "0.0.0.1000", "0.0.0.2550", "25500.0.0.0", "255.255.255.256",
		"00.0.0.0", "0.00.0.0", "0.0.00.0", "0.0.0.00", "01.2.3.4", "1.02.3.4", "1.2.03.4", "1.2.3.04", "001.2.3.4", "1.2.3.004", "000.000.000.000", "010.0.1.2", "0255.0.0.0", "1.2.3.0255", "0000000001.2.3.4",
		"+1.2.3.4", "-1.2.3.4", "1.+2.3.4", "1.-2.3.4", "-0.0.0.0", "1.2.3.-4", "1.2.3.+4", "0x1.2.3.4", "0x0A000102", "A.0.1.2", "1.2.3.a", "1e1.2.3.4", "1_0.2.3.4",
		"1,2,3,4", "1:2:3:4", "1/2/3/4", "1;2;3;4", "1-2-3-4", "1 2 3 4", "1.2.3,4", "1,2.3.4", "1.2/3.4", "167772418", "4294967295",
		"\uFF11.2.3.4", "1\uFF0E2.3.4", "\u0661.2.3.4", "1.2.3.\u00B9", "1.2.3.4\uFEFF", "\uFEFF1.2.3.4", "1.2.3.\xB1", "1\xAE2.3.4", "\xFF.\xFF.\xFF.\xFF", ":.0.0.0", "0.0.0.:", "1:.0.0.0", "1/.0.0.0",
		"4294967296.0.0.0", "4294967297.2.3.4", "1.2.3.4294967300", "18446744073709551617.2.3.4", "1.2.3.18446744073709551620", "340282366920938463463374607431768211457.2.3.4",
		long, long + ".2.3.4", "1.2.3." + long, strings.Repeat("0", 100000), strings.Repeat(".", 100000), strings.Repeat("1.", 100000), "1.2.3.4" + strings.Repeat(".5", 100000), strings.Repeat(" ", 100000) + "1.2.3.4",
	} {
		if a, e := Parse(s); a != 0 || e != api.ErrText {
			t.Errorf("Parse(%.80q): %08X, %d; want error %d", s, a, e, api.ErrText)
		}
	}
}

// P5.1: all texts of up to nine of some letters, by the document's words.
func TestParseOfAllShortTexts(t *testing.T) {
	rows := []string{""}
	for range 9 {
		var longer []string
		for _, row := range rows {
			for _, letter := range "0259." {
				longer = append(longer, row+string(letter))
			}
		}
		for _, s := range longer {
			parses(t, s)
		}
		rows = longer
	}
}

// P5.1: each number of up to four digits, with 0 ahead of it and without, in each place.
func TestParseOfEachNumberInEachPlace(t *testing.T) {
	for place := range 4 {
		for n := range 10000 {
			for _, zeros := range []string{"", "0", "00"} {
				pieces := []string{"7", "0", "30", "255"}
				pieces[place] = zeros + strconv.Itoa(n)
				parses(t, strings.Join(pieces, "."))
			}
		}
	}
}

// P5.1: texts of addresses with each byte left out, each one put in, and each one put instead of another.
func TestParseOfTextsThatAreChanged(t *testing.T) {
	for _, a := range []uint32{0, 0x0A000102, 0x01020304, 0xFFFFFFFF, 0x7F000001, 0xC0A80A64, 0x19191919, 0x64640000} {
		s := Print(a)
		for i := range len(s) + 1 {
			parses(t, s[:i])
			parses(t, s[i:])
			for c := range 256 {
				parses(t, s[:i]+string([]byte{byte(c)})+s[i:])
				if i < len(s) {
					parses(t, s[:i]+string([]byte{byte(c)})+s[i+1:])
				}
			}
			if i < len(s) {
				parses(t, s[:i]+s[i+1:])
				parses(t, s[:i]+s[i:i+1]+s[i:])
			}
		}
		parses(t, s+s)
		parses(t, s+"."+s)
	}
}

// P5.2: the bits of addresses that are known: bit 0 is the highest one, bit 31 the lowest.
func TestBitTellsWhatIsKnown(t *testing.T) {
	for _, x := range []struct {
		a    uint32
		bits string
	}{
		{0, "00000000000000000000000000000000"},
		{1, "00000000000000000000000000000001"},
		{0x80000000, "10000000000000000000000000000000"},
		{0x0A000102, "00001010000000000000000100000010"},
		{0xFFFFFFFF, "11111111111111111111111111111111"},
		{0x12345678, "00010010001101000101011001111000"},
	} {
		for i, c := range x.bits {
			if bit := Bit(x.a, i); bit != int(c-'0') {
				t.Errorf("Bit(%08X, %d): %d; want %c", x.a, i, bit, c)
			}
		}
	}
}

// P5.2: of many addresses, all bits.
func TestBitOfManyAddresses(t *testing.T) {
	for _, a := range someAddresses() {
		for i, c := range fmt.Sprintf("%032b", a) {
			if bit := Bit(a, i); bit != int(c-'0') {
				t.Errorf("Bit(%08X, %d): %d; want %c", a, i, bit, c)
			}
		}
	}
}

// P5.2: there is no bit below 0 or above 31: it is 0, whatever the address.
func TestBitOutsideIsZero(t *testing.T) {
	outside := []int{math.MinInt, math.MinInt + 1, math.MinInt + 31, math.MinInt32, math.MaxInt, math.MaxInt - 31, math.MaxInt32, 1 << 32, 1<<32 + 5, -1 << 32, -1<<32 + 5, 1 << 8, 256 + 5, 1<<16 + 5, -256 + 5}
	for i := range 200 {
		outside = append(outside, -1-i, 32+i)
	}
	for _, a := range []uint32{0, 1, 0x80000000, 0x80000001, 0x0A000102, 0xFFFFFFFF, 0x7FFFFFFF} {
		for _, i := range outside {
			if bit := Bit(a, i); bit != 0 {
				t.Errorf("Bit(%08X, %d): %d; want 0", a, i, bit)
			}
		}
	}
}

// commonTold is what the document says that Common tells, bit by bit.
func commonTold(a, b uint32) int {
	s, other := fmt.Sprintf("%032b", a), fmt.Sprintf("%032b", b)
	for i := range s {
		if s[i] != other[i] {
			return i
		}
	}
	return 32
}

// P5.2: pairs that are known.
func TestCommonTellsWhatIsKnown(t *testing.T) {
	for _, x := range []struct {
		a, b uint32
		want int
	}{
		{0, 0, 32},
		{0xFFFFFFFF, 0xFFFFFFFF, 32},
		{0x0A000102, 0x0A000102, 32},
		{0, 1, 31},
		{0, 0x80000000, 0},
		{0, 0xFFFFFFFF, 0},
		{0x7FFFFFFF, 0x80000000, 0},
		{0x0A000102, 0x0A000103, 31},
		{0x0A000102, 0x0A000100, 30},
		{0x0A000102, 0x0A000202, 22},
		{0x0A000102, 0x0B000102, 7},
		{0x0A000102, 0x8A000102, 0},
		{0xFFFFFFFF, 0xFFFFFFFE, 31},
		{0xFFFF0000, 0xFFFFFFFF, 16},
		{0x00FF00FF, 0x00FF00FE, 31}, // what is the same behind the first other bit does not count
		{0x40FFFFFF, 0x00FFFFFF, 1},
	} {
		if n := Common(x.a, x.b); n != x.want {
			t.Errorf("Common(%08X, %08X): %d; want %d", x.a, x.b, n, x.want)
		}
		if n := Common(x.b, x.a); n != x.want {
			t.Errorf("Common(%08X, %08X): %d; want %d", x.b, x.a, n, x.want)
		}
	}
}

// P5.2: of many addresses, those that are the same up to each bit, whatever follows.
func TestCommonOfAddressesThatPartAtEachBit(t *testing.T) {
	for _, a := range []uint32{0, 1, 0x0A000102, 0x55555555, 0xAAAAAAAA, 0x80000000, 0xFFFFFFFF, 0x12345678} {
		if n := Common(a, a); n != 32 {
			t.Errorf("Common(%08X, %08X): %d; want 32", a, a, n)
		}
		for i := range 32 {
			first := uint32(1) << (31 - i)
			for _, behind := range []uint32{0, 0xFFFFFFFF, 0x5A5A5A5A, 0xA5A5A5A5, 1} {
				b := a ^ first ^ behind&(first-1)
				if n := Common(a, b); n != i {
					t.Errorf("Common(%08X, %08X): %d; want %d", a, b, n, i)
				}
			}
		}
	}
}

// P5.2: of many pairs, by the document's words.
func TestCommonOfManyPairs(t *testing.T) {
	all := someAddresses()
	for i, a := range all {
		for _, b := range []uint32{all[(i+1)%len(all)], all[i*i%len(all)], a + 1, a - 1, a ^ 0x100} {
			if n, want := Common(a, b), commonTold(a, b); n != want {
				t.Errorf("Common(%08X, %08X): %d; want %d", a, b, n, want)
			}
		}
	}
}

// R6: what is told hangs on the arguments alone, not on what was asked ahead.
func TestCallsTellTheSameAgain(t *testing.T) {
	texts := []string{"10.0.1.2", "1.2.3", "255.255.255.255", "256.0.0.0", "", "0.0.0.0", "1.2.3.4.5"}
	for range 3 {
		for _, s := range texts {
			parses(t, s)
		}
		for i := range texts {
			parses(t, texts[len(texts)-1-i])
		}
		if Print(0x0A000102) != "10.0.1.2" || Print(0) != "0.0.0.0" || Bit(2, 30) != 1 || Bit(2, 32) != 0 || Common(2, 3) != 31 {
			t.Error("not the same again")
		}
	}
}
