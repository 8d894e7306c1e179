package prefix

import (
	"fmt"
	"math"
	"slices"
	"strconv"
	"strings"
	"testing"

	"theseus/api"
)

// someAddresses are addresses of all kinds: each bit alone, the first ones up to each, each byte in each place, and many between.
func someAddresses() []uint32 {
	var all []uint32
	for i := range uint32(32) {
		all = append(all, 1<<i, ^uint32(1<<i), 1<<i-1, ^uint32(1<<i-1), 0x0A000102^1<<i, 0xAAAAAAAA^1<<i)
	}
	for place := range 4 {
		for b := range uint32(256) {
			all = append(all, b<<(8*place))
		}
	}
	for i := range uint32(1000) {
		all = append(all, i*2654435761+i>>3)
	}
	return all
}

// fewAddresses are those of which each is held against each other one.
func fewAddresses() []uint32 {
	return []uint32{0, 1, 2, 0x0A000000, 0x0A000102, 0x0A000103, 0x0AFFFFFF, 0x0B000000, 0x7FFFFFFF, 0x80000000, 0x80000001, 0xAAAAAAAA, 0x55555555, 0xC0A80A64, 0xFFFF0000, 0x0000FFFF, 0xFFFFFFFE, 0xFFFFFFFF}
}

// someLengths are those that there are, those next to them, and some far off, of which the lowest bits alone would be such lengths.
func someLengths() []int {
	var all []int
	for n := -40; n <= 80; n++ {
		all = append(all, n)
	}
	return append(all, 128, 255, 256, 256+8, -256, -256+8, 1<<16+8, 1<<32, 1<<32+8, 1<<32+32, -1<<32, -1<<32+8, math.MaxInt32, math.MinInt32, math.MaxInt, math.MaxInt-31, math.MinInt, math.MinInt+8, math.MinInt+32)
}

// bitsOf are an address's bits as a text, from bit 0 on.
func bitsOf(a uint32) string { return fmt.Sprintf("%032b", a) }

// inBounds is the length as which Mask takes one.
func inBounds(n int) int {
	if n < 0 {
		return 0
	}
	if n > 32 {
		return 32
	}
	return n
}

// maskTold is what the document says that Mask tells.
func maskTold(n int) uint32 {
	n = inBounds(n)
	mask, err := strconv.ParseUint(strings.Repeat("1", n)+strings.Repeat("0", 32-n), 2, 32)
	if err != nil {
		panic(err)
	}
	return uint32(mask)
}

// mayTold is what the document says that May tells.
func mayTold(at uint32, n int) api.Errno {
	if n < 0 || n > 32 {
		return api.ErrSize
	}
	if strings.Contains(bitsOf(at)[n:], "1") {
		return api.ErrHost
	}
	return api.OK
}

// holdsTold is what the document says that Holds tells.
func holdsTold(at uint32, n int, a uint32) bool {
	n = inBounds(n)
	return bitsOf(at)[:n] == bitsOf(a)[:n]
}

// endsTold is what the document says that Ends tells.
func endsTold(at uint32, n int) (low, high uint32) {
	n = inBounds(n)
	first := bitsOf(at)[:n]
	lowest, err := strconv.ParseUint(first+strings.Repeat("0", 32-n), 2, 32)
	if err != nil {
		panic(err)
	}
	highest, err := strconv.ParseUint(first+strings.Repeat("1", 32-n), 2, 32)
	if err != nil {
		panic(err)
	}
	return uint32(lowest), uint32(highest)
}

// compareTold is what the document says that Compare tells.
func compareTold(a uint32, m int, b uint32, n int) int {
	if a < b || a == b && m < n {
		return -1
	}
	if a == b && m == n {
		return 0
	}
	return 1
}

// printTold is what the document says that Print tells.
func printTold(at uint32, n int) string {
	return fmt.Sprintf("%d.%d.%d.%d/%d", at>>24, at>>16&255, at>>8&255, at&255, n)
}

// parseTold is what the document says that Parse tells: it looks for an address and a length that have this text.
func parseTold(s string) (uint32, int, api.Errno) {
	for n := range 33 {
		head, found := strings.CutSuffix(s, "/"+strconv.Itoa(n))
		pieces := strings.Split(head, ".")
		if !found || len(pieces) != 4 {
			continue
		}
		at, whole := uint32(0), true
		for _, piece := range pieces {
			b, err := strconv.ParseUint(piece, 10, 8)
			whole = whole && err == nil && strconv.FormatUint(b, 10) == piece
			at = at<<8 | uint32(b)
		}
		if !whole || printTold(at, n) != s {
			continue
		}
		if e := mayTold(at, n); e != api.OK {
			return 0, 0, e
		}
		return at, n, api.OK
	}
	return 0, 0, api.ErrText
}

// parses tells of a Parse that is not as the document says.
func parses(t *testing.T, s string) {
	t.Helper()
	want, wantN, wantE := parseTold(s)
	if at, n, e := Parse(s); at != want || n != wantN || e != wantE {
		t.Errorf("Parse(%.80q): %08X, %d, %d; want %08X, %d, %d", s, at, n, e, want, wantN, wantE)
	}
}

// P6.1: masks that are known, and those of lengths that there are not.
func TestMaskTellsWhatIsKnown(t *testing.T) {
	for n, want := range map[int]uint32{
		0: 0, 1: 0x80000000, 2: 0xC0000000, 7: 0xFE000000, 8: 0xFF000000, 9: 0xFF800000, 15: 0xFFFE0000, 16: 0xFFFF0000, 24: 0xFFFFFF00, 30: 0xFFFFFFFC, 31: 0xFFFFFFFE, 32: 0xFFFFFFFF,
		-1: 0, -32: 0, -33: 0, 33: 0xFFFFFFFF, 64: 0xFFFFFFFF, 65: 0xFFFFFFFF, math.MaxInt: 0xFFFFFFFF, math.MinInt: 0, 1 << 32: 0xFFFFFFFF, -1 << 32: 0,
	} {
		if mask := Mask(n); mask != want {
			t.Errorf("Mask(%d): %08X; want %08X", n, mask, want)
		}
	}
}

// P6.1: of lengths of all kinds.
func TestMaskOfAllLengths(t *testing.T) {
	for _, n := range someLengths() {
		if mask, want := Mask(n), maskTold(n); mask != want {
			t.Errorf("Mask(%d): %08X; want %08X", n, mask, want)
		}
	}
}

// P6.1: prefixes that may be and that may not; of both errors (R3) that of the length is told.
func TestMayTellsWhatIsKnown(t *testing.T) {
	for _, x := range []struct {
		at   uint32
		n    int
		want api.Errno
	}{
		{0, 0, api.OK},
		{0, 1, api.OK},
		{0, 32, api.OK},
		{0x0A000000, 8, api.OK},
		{0x0A000000, 7, api.OK},
		{0x0A000000, 6, api.ErrHost},
		{0x0A000000, 32, api.OK},
		{0x0A000001, 8, api.ErrHost},
		{0x0A000001, 31, api.ErrHost},
		{0x0A000001, 32, api.OK},
		{0x0AFFFFFF, 32, api.OK},
		{0x80000000, 0, api.ErrHost},
		{0x80000000, 1, api.OK},
		{1, 0, api.ErrHost},
		{0xFFFFFFFF, 32, api.OK},
		{0xFFFFFFFF, 31, api.ErrHost},
		{0xFFFFFFFF, 0, api.ErrHost},
		{0, -1, api.ErrSize},
		{0, 33, api.ErrSize},
		{0, math.MinInt, api.ErrSize},
		{0, math.MaxInt, api.ErrSize},
		{0, 1 << 32, api.ErrSize},
		{1, -1, api.ErrSize},
		{1, 33, api.ErrSize},
		{0xFFFFFFFF, -1, api.ErrSize},
		{0xFFFFFFFF, 33, api.ErrSize},
		{0xFFFFFFFF, 64, api.ErrSize},
	} {
		if e := May(x.at, x.n); e != x.want {
			t.Errorf("May(%08X, %d): %d; want %d", x.at, x.n, e, x.want)
		}
	}
}

// P6.1: many addresses, with each length.
func TestMayOfManyPrefixes(t *testing.T) {
	for _, at := range someAddresses() {
		for _, n := range someLengths() {
			if e, want := May(at, n), mayTold(at, n); e != want {
				t.Errorf("May(%08X, %d): %d; want %d", at, n, e, want)
			}
			if n >= 0 && n <= 32 && May(maskTold(n)&at, n) != api.OK {
				t.Errorf("May(%08X, %d): not OK", maskTold(n)&at, n)
			}
		}
	}
}

// P6.1: one bit behind the first n is enough, whichever it is, and those ahead of it are not asked.
func TestMayOfEachBit(t *testing.T) {
	for n := range 33 {
		for bit := range 32 {
			at := uint32(1) << (31 - bit)
			want := api.OK
			if bit >= n {
				want = api.ErrHost
			}
			for _, first := range []uint32{0, maskTold(n)} {
				if e := May(at|first, n); e != want {
					t.Errorf("May(%08X, %d): %d; want %d", at|first, n, e, want)
				}
			}
		}
	}
}

// P6.2: what is known to be held, and what is not; bits of at behind the first n are not asked.
func TestHoldsTellsWhatIsKnown(t *testing.T) {
	for _, x := range []struct {
		at   uint32
		n    int
		a    uint32
		want bool
	}{
		{0x0A000000, 8, 0x0A000000, true},
		{0x0A000000, 8, 0x0AFFFFFF, true},
		{0x0A000000, 8, 0x0A000102, true},
		{0x0A000000, 8, 0x0B000000, false},
		{0x0A000000, 8, 0x09FFFFFF, false},
		{0x0A000000, 7, 0x0BFFFFFF, true},
		{0x0A000000, 8, 0x8A000000, false},
		{0x0AFFFFFF, 8, 0x0A000000, true},
		{0x0A000001, 31, 0x0A000000, true},
		{0x0A000001, 32, 0x0A000000, false},
		{0x0A000001, 32, 0x0A000001, true},
		{0, 0, 0xFFFFFFFF, true},
		{0xFFFFFFFF, 0, 0, true},
		{0xFFFFFFFF, -1, 0, true},
		{0xFFFFFFFF, math.MinInt, 0, true},
		{0, 1, 0x7FFFFFFF, true},
		{0, 1, 0x80000000, false},
		{0x80000000, 1, 0xFFFFFFFF, true},
		{0, 33, 0, true},
		{0, 33, 1, false},
		{0, 64, 0, true},
		{0, 64, 0x80000000, false},
		{0, math.MaxInt, 1, false},
		{0xFFFFFFFF, math.MaxInt, 0xFFFFFFFF, true},
		{0, 1 << 32, 1, false},
	} {
		if held := Holds(x.at, x.n, x.a); held != x.want {
			t.Errorf("Holds(%08X, %d, %08X): %t; want %t", x.at, x.n, x.a, held, x.want)
		}
	}
}

// P6.2: of many, with each length; those that part at each bit among them.
func TestHoldsOfManyAddresses(t *testing.T) {
	for _, at := range fewAddresses() {
		others := fewAddresses()
		for i := range 32 {
			others = append(others, at^1<<i, at^(1<<i-1), at^1<<i^0x5A5A5A5A&(1<<i-1))
		}
		for _, n := range someLengths() {
			for _, a := range others {
				if held, want := Holds(at, n, a), holdsTold(at, n, a); held != want {
					t.Errorf("Holds(%08X, %d, %08X): %t; want %t", at, n, a, held, want)
				}
			}
		}
	}
}

// P6.2: ends that are known, the document's among them.
func TestEndsTellsWhatIsKnown(t *testing.T) {
	for _, x := range []struct {
		at        uint32
		n         int
		low, high uint32
	}{
		{0x0A000000, 8, 0x0A000000, 0x0AFFFFFF},
		{0, 0, 0, 0xFFFFFFFF},
		{0xFFFFFFFF, 0, 0, 0xFFFFFFFF},
		{0, 1, 0, 0x7FFFFFFF},
		{0x80000000, 1, 0x80000000, 0xFFFFFFFF},
		{0xC0A80A00, 24, 0xC0A80A00, 0xC0A80AFF},
		{0x0A000102, 31, 0x0A000102, 0x0A000103},
		{0x0A000103, 31, 0x0A000102, 0x0A000103},
		{0x0A000102, 32, 0x0A000102, 0x0A000102},
		{0x0A000102, 16, 0x0A000000, 0x0A00FFFF}, // bits behind the first n are not those that are held
		{0xFFFFFFFF, 8, 0xFF000000, 0xFFFFFFFF},
		{0xFFFFFFFF, 32, 0xFFFFFFFF, 0xFFFFFFFF},
		{0x0A000102, -1, 0, 0xFFFFFFFF},
		{0x0A000102, math.MinInt, 0, 0xFFFFFFFF},
		{0x0A000102, 33, 0x0A000102, 0x0A000102},
		{0x0A000102, math.MaxInt, 0x0A000102, 0x0A000102},
	} {
		if low, high := Ends(x.at, x.n); low != x.low || high != x.high {
			t.Errorf("Ends(%08X, %d): %08X, %08X; want %08X, %08X", x.at, x.n, low, high, x.low, x.high)
		}
	}
}

// P6.2: of many, with each length: the ends are held, and what is next to them outside is not.
func TestEndsOfManyPrefixes(t *testing.T) {
	for _, at := range someAddresses() {
		for _, n := range someLengths() {
			low, high := Ends(at, n)
			if wantLow, wantHigh := endsTold(at, n); low != wantLow || high != wantHigh {
				t.Errorf("Ends(%08X, %d): %08X, %08X; want %08X, %08X", at, n, low, high, wantLow, wantHigh)
			}
			if !Holds(at, n, low) || !Holds(at, n, high) || low > 0 && Holds(at, n, low-1) || high < math.MaxUint32 && Holds(at, n, high+1) {
				t.Errorf("Holds(%08X, %d): not from %08X to %08X", at, n, low, high)
			}
		}
	}
}

// P6.2: of long prefixes each address near the ends is held just if it is from the lowest to the highest one.
func TestHoldsJustWhatIsBetweenTheEnds(t *testing.T) {
	for _, at := range fewAddresses() {
		for n := 22; n <= 32; n++ {
			low, high := Ends(at, n)
			size := uint32(1) << (32 - n)
			for d := range 4 * size {
				a := low - size + d // goes round at either end of all addresses, as what is held does not
				if Holds(at, n, a) != (low <= a && a <= high) {
					t.Errorf("Holds(%08X, %d, %08X): %t", at, n, a, Holds(at, n, a))
				}
			}
		}
	}
}

// P6.3: prefixes whose order is known.
func TestCompareTellsWhatIsKnown(t *testing.T) {
	for _, x := range []struct {
		a    uint32
		m    int
		b    uint32
		n    int
		want int
	}{
		{0, 0, 0, 0, 0},
		{0, 0, 0, 1, -1},
		{0, 8, 0, 7, 1},
		{0x0A000000, 8, 0x0A000000, 8, 0},
		{0x0A000000, 8, 0x0A000000, 16, -1},
		{0x0A000000, 16, 0x0A000000, 8, 1},
		{0x0A000000, 32, 0x0B000000, 8, -1}, // the address is asked first
		{0x0B000000, 8, 0x0A000000, 32, 1},
		{0x7FFFFFFF, 32, 0x80000000, 1, -1}, // addresses are not below 0
		{0xFFFFFFFF, 0, 0, 32, 1},
		{0, 32, 0xFFFFFFFF, 0, -1},
		{0x0A000001, 8, 0x0A000002, 8, -1}, // bits behind the first n are asked too
		{5, -1, 5, 0, -1},
		{5, -2, 5, -1, -1},
		{5, -1, 5, -1, 0},
		{5, 33, 5, 34, -1},
		{5, 32, 5, 33, -1}, // lengths are as they are, not as Mask takes them
		{5, math.MinInt, 5, math.MaxInt, -1},
		{5, math.MaxInt, 5, math.MinInt, 1},
		{5, math.MinInt, 5, 1, -1},
		{5, math.MaxInt, 5, -1, 1},
		{5, 1 << 32, 5, 0, 1},
		{5, 1<<32 + 8, 5, 8, 1},
		{5, math.MaxInt, 5, math.MaxInt, 0},
	} {
		if c := Compare(x.a, x.m, x.b, x.n); c != x.want {
			t.Errorf("Compare(%08X, %d, %08X, %d): %d; want %d", x.a, x.m, x.b, x.n, c, x.want)
		}
		if c := Compare(x.b, x.n, x.a, x.m); c != -x.want {
			t.Errorf("Compare(%08X, %d, %08X, %d): %d; want %d", x.b, x.n, x.a, x.m, c, -x.want)
		}
	}
}

// P6.3: of many pairs, by the document's words.
func TestCompareOfManyPairs(t *testing.T) {
	lengths := []int{math.MinInt, math.MinInt32, -256, -1, 0, 1, 7, 8, 16, 31, 32, 33, 256, 264, 1 << 32, 1<<32 + 8, math.MaxInt}
	for _, a := range fewAddresses() {
		for _, b := range fewAddresses() {
			for _, m := range lengths {
				for _, n := range lengths {
					if c, want := Compare(a, m, b, n), compareTold(a, m, b, n); c != want {
						t.Errorf("Compare(%08X, %d, %08X, %d): %d; want %d", a, m, b, n, c, want)
					}
				}
			}
		}
	}
}

// P6.4: texts of prefixes that are known, and back.
func TestPrintAndParseTellWhatIsKnown(t *testing.T) {
	for _, x := range []struct {
		at   uint32
		n    int
		text string
	}{
		{0x0A000000, 8, "10.0.0.0/8"},
		{0, 0, "0.0.0.0/0"},
		{0, 32, "0.0.0.0/32"},
		{0x80000000, 1, "128.0.0.0/1"},
		{0xFFFFFFFF, 32, "255.255.255.255/32"},
		{0xFFFFFFFE, 31, "255.255.255.254/31"},
		{0xC0A80A00, 24, "192.168.10.0/24"},
		{0x0A000102, 32, "10.0.1.2/32"},
		{0x0A000102, 31, "10.0.1.2/31"},
		{0x0A000000, 7, "10.0.0.0/7"},
		{0xFF000000, 9, "255.0.0.0/9"},
		{0xFF800000, 10, "255.128.0.0/10"},
	} {
		if s := Print(x.at, x.n); s != x.text {
			t.Errorf("Print(%08X, %d): %q; want %q", x.at, x.n, s, x.text)
		}
		if at, n, e := Parse(x.text); at != x.at || n != x.n || e != api.OK {
			t.Errorf("Parse(%q): %08X, %d, %d; want %08X, %d", x.text, at, n, e, x.at, x.n)
		}
	}
}

// P6.4: Print of what may not be too: a length below 0 has a - ahead, and bits behind the first n stay.
func TestPrintOfWhatMayNotBe(t *testing.T) {
	for _, x := range []struct {
		at   uint32
		n    int
		text string
	}{
		{0x0A000102, 8, "10.0.1.2/8"},
		{0xFFFFFFFF, 0, "255.255.255.255/0"},
		{0x0A000000, -1, "10.0.0.0/-1"},
		{0x0A000000, 33, "10.0.0.0/33"},
		{0x0A000102, 100, "10.0.1.2/100"},
		{0, 1 << 32, "0.0.0.0/4294967296"},
		{0, -1 << 32, "0.0.0.0/-4294967296"},
		{0, math.MaxInt, "0.0.0.0/9223372036854775807"},
		{0, math.MinInt, "0.0.0.0/-9223372036854775808"},
	} {
		if s := Print(x.at, x.n); s != x.text {
			t.Errorf("Print(%08X, %d): %q; want %q", x.at, x.n, s, x.text)
		}
	}
}

// P6.4: of many addresses, with each length; Parse of what Print tells.
func TestPrintOfManyPrefixesAndBack(t *testing.T) {
	for _, a := range someAddresses() {
		for _, n := range someLengths() {
			for _, at := range []uint32{a, a & maskTold(n)} {
				s := Print(at, n)
				if want := printTold(at, n); s != want {
					t.Errorf("Print(%08X, %d): %q; want %q", at, n, s, want)
				}
				switch back, length, e := Parse(s); mayTold(at, n) {
				case api.OK:
					if back != at || length != n || e != api.OK {
						t.Errorf("Parse(%q): %08X, %d, %d; want %08X, %d", s, back, length, e, at, n)
					}
				case api.ErrHost:
					if back != 0 || length != 0 || e != api.ErrHost {
						t.Errorf("Parse(%q): %08X, %d, %d; want error %d", s, back, length, e, api.ErrHost)
					}
				case api.ErrSize: // n is not from 0 to 32: a text of no prefix
					if back != 0 || length != 0 || e != api.ErrText {
						t.Errorf("Parse(%q): %08X, %d, %d; want error %d", s, back, length, e, api.ErrText)
					}
				}
			}
		}
	}
}

// P6.4: a prefix that has bits behind its first n tells ErrHost, and (R2) nothing beside it.
func TestParseRefusesBitsBehind(t *testing.T) {
	for _, s := range []string{"10.0.1.2/8", "10.0.0.1/31", "255.255.255.255/0", "255.255.255.255/31", "0.0.0.1/0", "128.0.0.0/0", "10.0.0.0/6", "1.2.3.4/9", "1.2.3.4/29"} {
		if at, n, e := Parse(s); at != 0 || n != 0 || e != api.ErrHost {
			t.Errorf("Parse(%q): %08X, %d, %d; want error %d", s, at, n, e, api.ErrHost)
		}
	}
}

// P6.4: what is no prefix's text, of each kind, tells ErrText, and (R2) nothing beside it; so it does where bits are behind as well.
func TestParseRefuses(t *testing.T) {
	long := strings.Repeat("1", 100000)
	for _, s := range []string{
		"", "/", "//", "0", "/0", "/8", "0/", "0/0", "10/8", "10.0.0/8", "10.0.0.0", "10.0.0.0/", "10.0.0.0/ ", "10.0.0.0//", "10.0.0.0//8", "/10.0.0.0/8", "10.0.0.0/8/", "10.0.0.0/8/8", "10.0.0.0/8/10.0.0.0", "8/10.0.0.0",
		"10.0.0.0/08", "10.0.0.0/008", "10.0.0.0/00", "0.0.0.0/00", "0.0.0.0/032", "0.0.0.0/0000000000", "0.0.0.0/+0", "0.0.0.0/-0", "10.0.0.0/+8", "10.0.0.0/-8", "10.0.0.0/--8", "10.0.0.0/-1", "0.0.0.0/-1", "0.0.0.0/-32",
		"10.0.0.0/33", "0.0.0.0/33", "0.0.0.0/34", "0.0.0.0/40", "0.0.0.0/64", "0.0.0.0/99", "0.0.0.0/100", "0.0.0.0/320", "0.0.0.0/256", "0.0.0.0/264", "0.0.0.0/4294967296", "0.0.0.0/4294967304", "0.0.0.0/18446744073709551616", "0.0.0.0/18446744073709551624", "0.0.0.0/-18446744073709551616",
		"10.0.0.0/8 ", " 10.0.0.0/8", "10.0.0.0 /8", "10.0.0.0/ 8", "10.0.0.0/8\n", "10.0.0.0/8\x00", "10.0.0.0/8.0", "10.0.0.0/8.", "10.0.0.0/.8", "10.0.0.0/8e0", "10.0.0.0/0x8", "10.0.0.0/1_6", "10.0.0.0/3 2", "10.0.0.0/a", "10.0.0.0/8a",
		"10.0.0.0.8", "10.0.0.0\\8", "10.0.0.0:8", "10.0.0.0-8", "10.0.0.0/255.0.0.0", "10.0.0.0./8", "10.0.0.0.0/8", ".10.0.0.0/8", "10..0.0/8", "256.0.0.0/8", "010.0.0.0/8", "10.0.0.00/8", "+10.0.0.0/8", "-10.0.0.0/8", "0x0A000000/8", "167772160/8", "a.0.0.0/8",
		"1.2.3.4/33", "1.2.3.4/08", "1.2.3.4/-1", "1.2.3.4/", "1.2.3.4", "01.2.3.4/8", "1.2.3.4/8/8", "255.255.255.255/33", "255.255.255.256/8",
		"10.0.0.0\uFF0F8", "10.0.0.0/\uFF18", "10.0.0.0/\u0668", "10.0.0.0/\u00B2", "10.0.0.0/8\uFEFF", "\uFEFF10.0.0.0/8", "10.0.0.0/\xB8", "10.0.0.0\xAF8", "10.0.0.0/:", "10.0.0.0//",
		long, long + "/8", "10.0.0.0/" + long, "10.0.0.0/" + strings.Repeat("0", 100000), strings.Repeat("/", 100000), "10.0.0.0" + strings.Repeat("/8", 100000), strings.Repeat("10.0.0.0/8", 10000), strings.Repeat(" ", 100000) + "10.0.0.0/8",
	} {
		if at, n, e := Parse(s); at != 0 || n != 0 || e != api.ErrText {
			t.Errorf("Parse(%.80q): %08X, %d, %d; want error %d", s, at, n, e, api.ErrText)
		}
	}
}

// P6.4: each length from 0 to 399, with 0 or a sign ahead of it and without, behind addresses that it may and may not have.
func TestParseOfEachLength(t *testing.T) {
	for _, address := range []string{"0.0.0.0", "10.0.0.0", "128.0.0.0", "255.255.255.255", "1.2.3.4", "1.2.3", "1.2.3.256", ""} {
		for n := range 400 {
			for _, ahead := range []string{"", "0", "00", "-", "+", " ", "/"} {
				parses(t, address+"/"+ahead+strconv.Itoa(n))
			}
		}
	}
}

// P6.4: texts of prefixes with each byte left out, each one put in, and each one put instead of another.
func TestParseOfTextsThatAreChanged(t *testing.T) {
	for _, s := range []string{"0.0.0.0/0", "10.0.0.0/8", "255.255.255.255/32", "192.168.10.0/24", "128.0.0.0/1", "1.2.3.4/30", "1.2.3.4/29", "0.0.0.0/-1", "0.0.0.0/33"} {
		for i := range len(s) + 1 {
			parses(t, s[:i])
			parses(t, s[i:])
			for c := range 256 {
				parses(t, s[:i]+string([]byte{byte(c)})+s[i:])
				if i < len(s) {
					parses(t, s[:i]+string([]byte{byte(c)})+s[i+1:])
				}
			}
			if i < len(s) {
				parses(t, s[:i]+s[i+1:])
				parses(t, s[:i]+s[i:i+1]+s[i:])
			}
		}
		parses(t, s+s)
		parses(t, s+"/"+s)
	}
}

// P6.4: all texts of up to six of some letters, behind the beginning of an address.
func TestParseOfAllShortTexts(t *testing.T) {
	rows := []string{""}
	for range 6 {
		var longer []string
		for _, row := range rows {
			for _, letter := range "0123./-" {
				longer = append(longer, row+string(letter))
			}
		}
		for _, s := range longer {
			parses(t, s)
			parses(t, "0.0."+s)
			parses(t, "1.2.3"+s)
		}
		rows = longer
	}
}

// P6.5: of two prefixes one holds all that the other one holds, which is so if it holds its ends, or they hold nothing both.
func TestOneHoldsTheOtherOrNothingIsHeldByBoth(t *testing.T) {
	inside := func(low, high, from, to uint32) bool { return from <= low && high <= to }
	for _, at := range fewAddresses() {
		for m := range 33 {
			low, high := Ends(at, m)
			for _, other := range append(fewAddresses(), at^1, at^2, at^0x100, at^0x80000000, at+1, at-1) {
				for n := range 33 {
					from, to := Ends(other, n)
					holds, held := inside(from, to, low, high), inside(low, high, from, to)
					apart := high < from || to < low
					if apart == (holds || held) {
						t.Errorf("%08X/%d and %08X/%d: apart %t, one holds the other %t, is held by it %t", at, m, other, n, apart, holds, held)
					}
					if holds != (m <= n && Holds(at, m, other)) || held != (n <= m && Holds(other, n, at)) {
						t.Errorf("%08X/%d and %08X/%d: the ends and Holds do not tell the same", at, m, other, n)
					}
				}
			}
		}
	}
}

// P6.5: of prefixes of few bits, by all addresses of which these bits are of all kinds.
func TestOneHoldsTheOtherByAddresses(t *testing.T) {
	const few = 4
	for m := range few + 1 {
		for i := range uint32(1) << m {
			for n := range few + 1 {
				for j := range uint32(1) << n {
					at, other := i<<(31-m)<<1, j<<(31-n)<<1
					var held, heldToo, both int
					for k := range uint32(1) << few {
						a := k<<(32-few) | 0x00012345
						in, inToo := Holds(at, m, a), Holds(other, n, a)
						if in {
							held++
						}
						if inToo {
							heldToo++
						}
						if in && inToo {
							both++
						}
					}
					if held != 1<<(few-m) || heldToo != 1<<(few-n) || both != 0 && both != min(held, heldToo) {
						t.Errorf("%08X/%d and %08X/%d: hold %d and %d, both %d", at, m, other, n, held, heldToo, both)
					}
				}
			}
		}
	}
}

// P6.3 and P6.2: prefixes in Compare's order: what holds another one is ahead of it, and each one's lowest address is not below that of the one ahead.
func TestCompareOrdersWhatHoldsAheadOfWhatIsHeld(t *testing.T) {
	type prefix struct {
		at uint32
		n  int
	}
	var all []prefix
	for _, a := range fewAddresses() {
		for n := range 33 {
			all = append(all, prefix{a & maskTold(n), n})
		}
	}
	slices.SortFunc(all, func(p, q prefix) int { return Compare(p.at, p.n, q.at, q.n) })
	for i := range len(all) - 1 {
		p, q := all[i], all[i+1]
		if p.at > q.at || p.at == q.at && p.n > q.n {
			t.Errorf("%08X/%d is ahead of %08X/%d", p.at, p.n, q.at, q.n)
		}
		if p != q && Holds(q.at, q.n, p.at) && q.n <= p.n {
			t.Errorf("%08X/%d is ahead of %08X/%d, which holds it", p.at, p.n, q.at, q.n)
		}
	}
}

// R6: what is told hangs on the arguments alone, not on what was asked ahead.
func TestCallsTellTheSameAgain(t *testing.T) {
	texts := []string{"10.0.0.0/8", "10.0.0.1/8", "10.0.0.0/08", "0.0.0.0/0", "", "255.255.255.255/32", "1.2.3.4/33"}
	for range 3 {
		for _, s := range texts {
			parses(t, s)
		}
		for i := range texts {
			parses(t, texts[len(texts)-1-i])
		}
		low, high := Ends(0x0A000000, 8)
		if low != 0x0A000000 || high != 0x0AFFFFFF || Mask(8) != 0xFF000000 || Mask(33) != 0xFFFFFFFF || Mask(0) != 0 {
			t.Error("Ends or Mask: not the same again")
		}
		if !Holds(0x0A000000, 8, 0x0A000102) || Holds(0x0A000000, 8, 0x0B000000) || Compare(0, 1, 0, 2) != -1 || Print(0, 0) != "0.0.0.0/0" || May(1, 8) != api.ErrHost || May(0, 8) != api.OK {
			t.Error("Holds, Compare, Print or May: not the same again")
		}
	}
}
