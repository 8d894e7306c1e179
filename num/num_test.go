package num

import (
	"bytes"
	"math"
	"testing"

	"theseus/api"
)

var (
	wrongSizes = []int{math.MinInt, -1 << 32, -4, -1, 0, 5, 8, 64, 1 << 32, 1<<32 + 1, math.MaxInt}
	// pastSize is, of each size, the least number that is too great for it.
	pastSize = [5]int{1: 1 << 8, 2: 1 << 16, 3: 1 << 24, 4: 1 << 32}
)

// someNumbers are numbers of so many bytes, rising: all of few bytes, of more the edges of each byte and some between.
func someNumbers(size int) []int {
	var l []int
	for n := 0; n < pastSize[min(size, 2)]; n++ {
		l = append(l, n)
	}
	for s := 3; s <= size; s++ {
		for n := pastSize[s-1]; n < pastSize[s]-1; n += pastSize[s]/4099 + 1 {
			l = append(l, n)
		}
		l = append(l, pastSize[s]-1)
	}
	return l
}

// P1.1: ordinary numbers, the highest byte first.
func TestPutTellsBytes(t *testing.T) {
	for _, x := range []struct {
		n, size int
		b       []byte
	}{
		{258, 3, []byte{0, 1, 2}}, // the document's example
		{0, 1, []byte{0}},
		{1, 1, []byte{1}},
		{255, 1, []byte{255}},
		{0, 2, []byte{0, 0}},
		{255, 2, []byte{0, 255}},
		{256, 2, []byte{1, 0}},
		{65535, 2, []byte{255, 255}},
		{65536, 3, []byte{1, 0, 0}},
		{1<<24 - 1, 3, []byte{255, 255, 255}},
		{0, 4, []byte{0, 0, 0, 0}},
		{0x01020304, 4, []byte{1, 2, 3, 4}},
		{0x80000000, 4, []byte{128, 0, 0, 0}},
		{1<<32 - 1, 4, []byte{255, 255, 255, 255}},
	} {
		if b, e := Put(x.n, x.size); !bytes.Equal(b, x.b) || e != api.OK {
			t.Errorf("Put(%d, %d): %v, %d; want %v", x.n, x.size, b, e, x.b)
		}
	}
}

// P1.1: numbers just beyond a size, or below 0.
func TestPutRefusesNumbers(t *testing.T) {
	for size := 1; size <= 4; size++ {
		if b, e := Put(pastSize[size]-1, size); len(b) != size || e != api.OK {
			t.Errorf("the greatest number of size %d: %v, %d", size, b, e)
		}
		for _, n := range []int{pastSize[size], pastSize[size] + 1, 1 << 33, math.MaxInt, -1, -255, -1 << 32, math.MinInt} {
			if b, e := Put(n, size); len(b) != 0 || e != api.ErrSize {
				t.Errorf("Put(%d, %d): %v, %d", n, size, b, e)
			}
		}
	}
}

// P1.1: sizes that there are not.
func TestPutRefusesSizes(t *testing.T) {
	for _, size := range wrongSizes {
		for _, n := range []int{0, 1, 255, -1, math.MinInt, math.MaxInt} {
			if b, e := Put(n, size); len(b) != 0 || e != api.ErrSize {
				t.Errorf("Put(%d, %d): %v, %d", n, size, b, e)
			}
		}
	}
}

// P1.2: the number of the first bytes, whatever stands behind them.
func TestTakeTellsNumbers(t *testing.T) {
	for _, x := range []struct {
		b       []byte
		size, n int
	}{
		{[]byte{0, 1, 2}, 3, 258},
		{[]byte{0, 1, 2, 3}, 3, 258},
		{[]byte{7}, 1, 7},
		{[]byte{255, 254}, 1, 255},
		{[]byte{1, 0, 255, 255, 255}, 2, 256},
		{[]byte{0, 0, 0, 0}, 4, 0},
		{[]byte{128, 0, 0, 0}, 4, 1 << 31},
		{[]byte{1, 2, 3, 4, 5}, 4, 0x01020304},
		{[]byte{255, 255, 255, 255}, 4, 1<<32 - 1},
	} {
		if n, e := Take(x.b, x.size); n != x.n || e != api.OK {
			t.Errorf("Take(%v, %d): %d, %d; want %d", x.b, x.size, n, e, x.n)
		}
	}
}

// P1.2: too few bytes, down to one fewer than the size and to none.
func TestTakeRefusesFewBytes(t *testing.T) {
	for size := 1; size <= 4; size++ {
		for have := range size {
			b := bytes.Repeat([]byte{255}, have)
			if n, e := Take(b, size); n != 0 || e != api.ErrShort {
				t.Errorf("Take of %d bytes, size %d: %d, %d", have, size, n, e)
			}
		}
		if n, e := Take(nil, size); n != 0 || e != api.ErrShort {
			t.Errorf("Take of nil, size %d: %d, %d", size, n, e)
		}
	}
}

// P1.2: a size that there is not is told ahead of too few bytes.
func TestTakeRefusesSizes(t *testing.T) {
	for _, size := range wrongSizes {
		for _, b := range [][]byte{nil, {}, {1}, {1, 2, 3, 4}, {1, 2, 3, 4, 5, 6, 7, 8}} {
			if n, e := Take(b, size); n != 0 || e != api.ErrSize {
				t.Errorf("Take(%v, %d): %d, %d", b, size, n, e)
			}
		}
	}
}

// P1.3: Put of each, one behind the other.
func TestRowIsPutOfEach(t *testing.T) {
	if b, e := Row(2, 1, 256, 65535); !bytes.Equal(b, []byte{0, 1, 1, 0, 255, 255}) || e != api.OK {
		t.Errorf("Row(2, 1, 256, 65535): %v, %d", b, e)
	}
	for size := 1; size <= 4; size++ {
		for _, l := range [][]int{{0}, {255, 0, 1}, {3, 2, 1}, {7, 7}, {0, pastSize[size] - 1, 0}, someNumbers(size)} {
			var want []byte
			for _, n := range l {
				b, _ := Put(n, size)
				want = append(want, b...)
			}
			if b, e := Row(size, l...); !bytes.Equal(b, want) || e != api.OK {
				t.Errorf("Row of %d numbers, size %d: %d bytes, error %d; want %d bytes", len(l), size, len(b), e, len(want))
			}
		}
	}
}

// P1.3: one wrong number, wherever it stands, leaves nothing of the others.
func TestRowRefusesNumbers(t *testing.T) {
	for size := 1; size <= 4; size++ {
		for _, wrong := range []int{pastSize[size], -1, math.MinInt, math.MaxInt} {
			for _, l := range [][]int{{wrong}, {wrong, 1, 2}, {1, wrong, 2}, {1, 2, wrong}, {wrong, wrong}} {
				if b, e := Row(size, l...); len(b) != 0 || e != api.ErrSize {
					t.Errorf("Row(%d, %v): %v, %d", size, l, b, e)
				}
			}
		}
	}
}

// P1.3: the size is looked at also of no number.
func TestRowOfNoNumber(t *testing.T) {
	for size := 1; size <= 4; size++ {
		if b, e := Row(size); len(b) != 0 || e != api.OK {
			t.Errorf("Row(%d): %v, %d", size, b, e)
		}
	}
	for _, size := range wrongSizes {
		for _, l := range [][]int{nil, {}, {0}, {1, 2, 3}, {-1}} {
			if b, e := Row(size, l...); len(b) != 0 || e != api.ErrSize {
				t.Errorf("Row(%d, %v): %v, %d", size, l, b, e)
			}
		}
	}
}

// P1.4: what was put is taken, alone and with bytes behind it.
func TestWhatWasPutIsTaken(t *testing.T) {
	for size := 1; size <= 4; size++ {
		for _, n := range someNumbers(size) {
			b, e := Put(n, size)
			if len(b) != size || e != api.OK {
				t.Fatalf("Put(%d, %d): %v, %d", n, size, b, e)
			}
			if m, e := Take(b, size); m != n || e != api.OK {
				t.Fatalf("Take of Put(%d, %d): %d, %d", n, size, m, e)
			}
			if m, e := Take(append(b, 255, 0), size); m != n || e != api.OK {
				t.Fatalf("Take of Put(%d, %d) and more: %d, %d", n, size, m, e)
			}
		}
	}
}

// P1.4: a row is taken number by number.
func TestWhatWasPutInARowIsTaken(t *testing.T) {
	for size := 1; size <= 4; size++ {
		l := someNumbers(size)
		b, e := Row(size, l...)
		if len(b) != size*len(l) || e != api.OK {
			t.Fatalf("Row of %d numbers, size %d: %d bytes, error %d", len(l), size, len(b), e)
		}
		for i, n := range l {
			if m, e := Take(b[i*size:], size); m != n || e != api.OK {
				t.Fatalf("number %d of a row of size %d: %d, %d; want %d", i, size, m, e, n)
			}
		}
	}
}

// P1.4: of numbers of as many bytes the greater one has the greater bytes.
func TestBytesRiseWithNumbers(t *testing.T) {
	for size := 1; size <= 4; size++ {
		var last []byte
		for i, n := range someNumbers(size) {
			b, _ := Put(n, size)
			if i > 0 && bytes.Compare(last, b) >= 0 {
				t.Fatalf("size %d: %v of %d is not above %v", size, b, n, last)
			}
			last = b
		}
	}
}

// R7: arguments stay as they are, and what is told is the caller's own.
func TestNothingIsShared(t *testing.T) {
	first, _ := Put(258, 3)
	second, _ := Put(258, 3)
	first[0] = 9
	if !bytes.Equal(second, []byte{0, 1, 2}) {
		t.Errorf("two Puts share bytes: %v", second)
	}
	l := []int{1, 2}
	row, _ := Row(1, l...)
	l[0] = 9
	if !bytes.Equal(row, []byte{1, 2}) {
		t.Errorf("a row changed with its numbers: %v", row)
	}
	row[1] = 9
	if l[1] != 2 {
		t.Errorf("numbers changed with their row: %v", l)
	}
	again, _ := Row(1, 1, 2)
	if !bytes.Equal(again, []byte{1, 2}) {
		t.Errorf("two Rows share bytes: %v", again)
	}
	b := []byte{1, 2, 3}
	Take(b, 2)
	if !bytes.Equal(b, []byte{1, 2, 3}) {
		t.Errorf("Take changed its bytes: %v", b)
	}
}
