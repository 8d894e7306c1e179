package group

import (
	"bytes"
	"math"
	"slices"
	"testing"

	"theseus/api"
)

// forms are numbers and their bytes, with the edges of each size.
var forms = []struct {
	n int
	b []byte
}{
	{300, []byte{0x82, 0x2C}}, // the document's example
	{0, []byte{0}},
	{1, []byte{1}},
	{127, []byte{0x7F}},
	{128, []byte{0x81, 0}},
	{255, []byte{0x81, 0x7F}},
	{256, []byte{0x82, 0}},
	{1<<14 - 1, []byte{0xFF, 0x7F}},
	{1 << 14, []byte{0x81, 0x80, 0}},
	{1<<14 + 1, []byte{0x81, 0x80, 1}},
	{1<<14 + 1<<7, []byte{0x81, 0x81, 0}},
	{1<<21 - 1, []byte{0xFF, 0xFF, 0x7F}},
	{1 << 21, []byte{0x81, 0x80, 0x80, 0}},
	{1<<21 + 2<<14 + 3<<7 + 4, []byte{0x81, 0x82, 0x83, 4}},
	{1 << 27, []byte{0xC0, 0x80, 0x80, 0}},
	{1<<28 - 2, []byte{0xFF, 0xFF, 0xFF, 0x7E}},
	{1<<28 - 1, []byte{0xFF, 0xFF, 0xFF, 0x7F}},
}

var wrongNumbers = []int{
	-1, -2, -127, -128, -1 << 28, -1 << 31, -1 << 32, math.MinInt, math.MinInt + 1,
	1 << 28, 1<<28 + 1, 1<<29 - 1, 1 << 31, 1 << 32, 1<<32 + 5, 1 << 35, math.MaxInt,
}

// edges are the bytes at which something may change, and some between.
var edges = []byte{0, 1, 64, 127, 128, 129, 192, 255}

// someNumbers are numbers that may be put, rising: all of up to two bytes, the edges of each bit, and some between.
func someNumbers() []int {
	var l []int
	for n := range 1<<14 + 1<<10 {
		l = append(l, n)
	}
	for n := 1<<14 + 1<<10; n < api.MaxGroup; n += 1013 {
		l = append(l, n)
	}
	for bit := range 28 {
		l = append(l, 1<<bit-1, 1<<bit, 1<<bit+1)
	}
	l = append(l, api.MaxGroup-1, api.MaxGroup)
	slices.Sort(l)
	return slices.Compact(l)
}

// told is what the document says that Take tells, worked out rule by rule.
func told(b []byte) (n, used int, e api.Errno) {
	end := slices.IndexFunc(b, func(c byte) bool { return c < 128 })
	long := len(b) >= 4 && b[0] >= 128 && b[1] >= 128 && b[2] >= 128 && b[3] >= 128
	if len(b) > 0 && b[0] == 128 || long {
		return 0, 0, api.ErrForm
	}
	if end < 0 {
		return 0, 0, api.ErrShort
	}
	for _, c := range b[:end+1] {
		n = n*128 + int(c)%128
	}
	return n, end + 1, api.OK
}

// P2.1: numbers as bytes, the highest group first, 128 more in all but the last one.
func TestPutTellsBytes(t *testing.T) {
	for _, x := range forms {
		if b, e := Put(x.n); !bytes.Equal(b, x.b) || e != api.OK {
			t.Errorf("Put(%d): %x, %d; want %x", x.n, b, e, x.b)
		}
	}
}

// P2.1: of many numbers, the bytes are the groups of seven bits, and as few as may be.
func TestPutHasFewBytes(t *testing.T) {
	for _, n := range someNumbers() {
		b, e := Put(n)
		if e != api.OK || len(b) == 0 {
			t.Fatalf("Put(%d): %x, %d", n, b, e)
		}
		if least := 1 << (7 * (len(b) - 1)); len(b) > 1 && n < least {
			t.Fatalf("Put(%d): %x: fewer bytes would do", n, b)
		}
		sum := 0
		for i, c := range b {
			if last := i == len(b)-1; last != (c < 128) {
				t.Fatalf("Put(%d): %x: byte %d", n, b, i)
			}
			sum = sum*128 + int(c&127)
		}
		if sum != n {
			t.Fatalf("Put(%d): %x, which is %d", n, b, sum)
		}
	}
}

// P2.1: numbers below 0 or above MaxGroup have no bytes.
func TestPutRefusesNumbers(t *testing.T) {
	for _, n := range wrongNumbers {
		if b, e := Put(n); len(b) != 0 || e != api.ErrSize {
			t.Errorf("Put(%d): %x, %d", n, b, e)
		}
	}
}

// P2.1: how many bytes numbers have.
func TestSizeTellsBytes(t *testing.T) {
	for _, x := range forms {
		if size := Size(x.n); size != len(x.b) {
			t.Errorf("Size(%d): %d; want %d", x.n, size, len(x.b))
		}
	}
	for _, n := range someNumbers() {
		if b, _ := Put(n); Size(n) != len(b) {
			t.Fatalf("Size(%d): %d; Put has %d", n, Size(n), len(b))
		}
	}
}

// P2.1: there is no size of what has no bytes.
func TestSizeOfWrongNumbers(t *testing.T) {
	for _, n := range wrongNumbers {
		if size := Size(n); size != 0 {
			t.Errorf("Size(%d): %d", n, size)
		}
	}
}

// P2.2: the number that bytes begin with, and how many bytes it has.
func TestTakeTellsNumbers(t *testing.T) {
	for _, x := range forms {
		for _, behind := range [][]byte{nil, {0}, {127}, {128}, {255}, {129, 0}, {128, 128, 128, 128, 128}} {
			b := append(bytes.Clone(x.b), behind...)
			if n, used, e := Take(b); n != x.n || used != len(x.b) || e != api.OK {
				t.Errorf("Take(%x): %d, %d, %d; want %d, %d", b, n, used, e, x.n, len(x.b))
			}
		}
	}
}

// P2.2: a first byte of 128 is told, whatever follows, and though none follows.
func TestTakeRefusesEmptyGroup(t *testing.T) {
	for _, b := range [][]byte{{128}, {128, 0}, {128, 1}, {128, 127, 1}, {128, 128}, {128, 129}, {128, 255, 255}, {128, 128, 128, 0}, {128, 128, 128, 128}, {128, 129, 129, 129, 0}} {
		if n, used, e := Take(b); n != 0 || used != 0 || e != api.ErrForm {
			t.Errorf("Take(%x): %d, %d, %d", b, n, used, e)
		}
	}
}

// P2.2: four bytes from 128 on are told, whatever follows, and though none follows.
func TestTakeRefusesFiveGroups(t *testing.T) {
	for _, first := range [][]byte{{129, 128, 128, 128}, {255, 255, 255, 255}, {129, 255, 128, 129}, {200, 128, 255, 128}} {
		for _, behind := range [][]byte{nil, {0}, {1}, {127, 0}, {128}, {255}, {255, 255, 255, 255, 255, 0}} {
			b := append(bytes.Clone(first), behind...)
			if n, used, e := Take(b); n != 0 || used != 0 || e != api.ErrForm {
				t.Errorf("Take(%x): %d, %d, %d", b, n, used, e)
			}
		}
	}
}

// P2.2: bytes that end ahead of one below 128.
func TestTakeRefusesFewBytes(t *testing.T) {
	for _, b := range [][]byte{nil, {}, {129}, {130}, {255}, {129, 128}, {255, 255}, {129, 128, 128}, {255, 255, 255}, {129, 255, 128}} {
		if n, used, e := Take(b); n != 0 || used != 0 || e != api.ErrShort {
			t.Errorf("Take(%x): %d, %d, %d", b, n, used, e)
		}
	}
}

// P2.2: all of up to two bytes, and all of up to six bytes at the edges of a byte, are told as the document says.
func TestTakeOfAllFewBytes(t *testing.T) {
	look := func(b []byte) {
		n, used, e := Take(b)
		if wn, wused, we := told(b); n != wn || used != wused || e != we {
			t.Fatalf("Take(%x): %d, %d, %d; want %d, %d, %d", b, n, used, e, wn, wused, we)
		}
	}
	for c := range 256 {
		look([]byte{byte(c)})
		for d := range 256 {
			look([]byte{byte(c), byte(d)})
		}
	}
	rows := [][]byte{nil}
	for range 6 {
		var longer [][]byte
		for _, b := range rows {
			look(b)
			for _, c := range edges {
				longer = append(longer, append(bytes.Clone(b), c))
			}
		}
		rows = longer
	}
	for _, b := range rows {
		look(b)
	}
}

// P2.3: what was put is taken, alone and whatever stands behind.
func TestWhatWasPutIsTaken(t *testing.T) {
	for _, m := range someNumbers() {
		b, e := Put(m)
		if e != api.OK {
			t.Fatalf("Put(%d): %d", m, e)
		}
		size := len(b)
		for _, behind := range [][]byte{nil, {0, 255}, {255, 255, 255, 255}} {
			if n, used, e := Take(append(b, behind...)); n != m || used != size || e != api.OK {
				t.Fatalf("Take of Put(%d) and %x: %d, %d, %d", m, behind, n, used, e)
			}
		}
	}
}

// P2.3: what is taken is what was put: of all two bytes, and some behind them.
func TestWhatIsTakenWasPut(t *testing.T) {
	b := make([]byte, 4)
	for first := range 1 << 16 {
		b[0], b[1] = byte(first>>8), byte(first)
		for _, b[2] = range edges {
			for _, b[3] = range edges {
				n, used, e := Take(b)
				if e != api.OK {
					continue
				}
				if p, e := Put(n); e != api.OK || !bytes.Equal(p, b[:used]) {
					t.Fatalf("Take(%x): %d, %d; its Put: %x, %d", b, n, used, p, e)
				}
			}
		}
	}
}

// P2.3: no number's bytes begin with another one's.
func TestNoneBeginsWithAnother(t *testing.T) {
	var rows [][]byte
	for _, n := range someNumbers() {
		b, _ := Put(n)
		rows = append(rows, b)
	}
	slices.SortFunc(rows, bytes.Compare)
	// Between bytes and others that begin with them stand only such: so neighbours are enough.
	for i := 1; i < len(rows); i++ {
		if bytes.HasPrefix(rows[i], rows[i-1]) {
			t.Fatalf("%x begins with %x", rows[i], rows[i-1])
		}
	}
}

// R7: arguments stay as they are, and what is told is the caller's own.
func TestNothingIsShared(t *testing.T) {
	first, _ := Put(300)
	first[0], first[1] = 9, 9
	second, _ := Put(300)
	if !bytes.Equal(second, []byte{0x82, 0x2C}) {
		t.Errorf("two Puts share bytes: %x", second)
	}
	for _, b := range [][]byte{{0x82, 0x2C, 7}, {128, 1}, {255, 255}, {255, 255, 255, 255}} {
		kept := bytes.Clone(b)
		Take(b)
		if !bytes.Equal(b, kept) {
			t.Errorf("Take changed %x to %x", kept, b)
		}
	}
}
