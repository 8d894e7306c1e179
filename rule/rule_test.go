package rule

import (
	"bytes"
	"fmt"
	"math"
	"slices"
	"testing"

	"theseus/api"
)

// someAts are addresses of all kinds: each bit alone, the first ones up to each, each byte in each place.
func someAts() []uint32 {
	var all []uint32
	for i := range uint32(32) {
		all = append(all, 1<<i, ^uint32(1<<i), 1<<i-1, ^uint32(1<<i-1), 0x0A000102^1<<i)
	}
	for place := range 4 {
		for b := range uint32(256) {
			all = append(all, b<<(8*place))
		}
	}
	return append(all, 0x01020304, 0xA1B2C3D4)
}

// fewAts are those of which each goes with each number of a rule's other fields.
func fewAts() []uint32 {
	return []uint32{0, 1, 0x0A000000, 0x0A000102, 0x7FFFFFFF, 0x80000000, 0xFFFFFFFE, 0xFFFFFFFF}
}

// edges are numbers about all bounds that a rule's fields have, and some far off, of which the lowest bits alone would be within them.
func edges() []int {
	all := []int{math.MinInt, math.MinInt + 1, math.MinInt + 8, -1 << 32, -1<<32 + 1, math.MinInt32, -1 << 16, -1<<16 + 1, -257, -256, -255, -254, -3, -2, -1}
	all = append(all, 0, 1, 2, 3, 4, 5, 7, 8, 9, 31, 32, 33, 34, 127, 128, 254, 255, 256, 257, 258, 259, 264, 4095, 4096, 1<<15-1, 1<<15, 1<<16-1, 1<<16, 1<<16+1, 1<<16+3)
	return append(all, math.MaxInt32, 1<<32-1, 1<<32, 1<<32+1, 1<<32+2, 1<<32+3, 1<<32+8, math.MaxInt-1, math.MaxInt)
}

// mayTold is what the document says that May tells.
func mayTold(r api.Rule, nodes int) api.Errno {
	if r.Len < 0 || r.Len > 32 {
		return api.ErrSize
	}
	for _, bit := range fmt.Sprintf("%032b", r.At)[r.Len:] {
		if bit == '1' {
			return api.ErrHost
		}
	}
	if r.Act != 1 && r.Act != 2 && r.Act != 3 {
		return api.ErrAct
	}
	if r.Act == 1 && !(0 <= r.Next && r.Next < nodes) || r.Act != 1 && r.Next != 0 {
		return api.ErrNode
	}
	return api.OK
}

// compareTold is what the document says that Compare tells.
func compareTold(a, b api.Rule) int {
	if a.At < b.At || a.At == b.At && a.Len < b.Len {
		return -1
	}
	if a.At == b.At && a.Len == b.Len {
		return 0
	}
	return 1
}

// putTold is what the document says that Put tells.
func putTold(r api.Rule) ([]byte, api.Errno) {
	if r.Len < 0 || r.Len > 255 || r.Act < 0 || r.Act > 255 || r.Next < 0 || r.Next > 65535 {
		return nil, api.ErrSize
	}
	return []byte{byte(r.At >> 24), byte(r.At >> 16), byte(r.At >> 8), byte(r.At), byte(r.Len), byte(r.Act), byte(r.Next >> 8), byte(r.Next)}, api.OK
}

// takeTold is what the document says that Take tells.
func takeTold(b []byte) (api.Rule, api.Errno) {
	if len(b) < 8 {
		return api.Rule{}, api.ErrShort
	}
	at := uint32(b[0])<<24 | uint32(b[1])<<16 | uint32(b[2])<<8 | uint32(b[3])
	return api.Rule{At: at, Len: int(b[4]), Act: int(b[5]), Next: int(b[6])*256 + int(b[7])}, api.OK
}

// puts tells of a Put that is not as the document says.
func puts(t *testing.T, r api.Rule) {
	t.Helper()
	want, wantE := putTold(r)
	if b, e := Put(r); !bytes.Equal(b, want) || e != wantE || e != api.OK && b != nil {
		t.Errorf("Put(%v): %v, %d; want %v, %d", r, b, e, want, wantE)
	}
}

// takes tells of a Take that is not as the document says.
func takes(t *testing.T, b []byte) {
	t.Helper()
	want, wantE := takeTold(b)
	if r, e := Take(b); r != want || e != wantE {
		t.Errorf("Take(%v): %v, %d; want %v, %d", b, r, e, want, wantE)
	}
}

// mays tells of a May that is not as the document says.
func mays(t *testing.T, r api.Rule, nodes int) {
	t.Helper()
	if e, want := May(r, nodes), mayTold(r, nodes); e != want {
		t.Errorf("May(%v, %d): %d; want %d", r, nodes, e, want)
	}
}

// P7.1: rules that may be and that may not; of several errors (R3) the first one that the chapter names.
func TestMayTellsWhatIsKnown(t *testing.T) {
	for _, x := range []struct {
		r     api.Rule
		nodes int
		want  api.Errno
	}{
		{api.Rule{At: 0x0A000000, Len: 8, Act: api.AcNext, Next: 3}, 4, api.OK},
		{api.Rule{At: 0x0A000000, Len: 8, Act: api.AcNext, Next: 3}, 256, api.OK},
		{api.Rule{At: 0x0A000000, Len: 8, Act: api.AcNext, Next: 0}, 4, api.OK},
		{api.Rule{At: 0x0A000000, Len: 8, Act: api.AcNext, Next: 0}, 1, api.OK},
		{api.Rule{At: 0x0A000000, Len: 8, Act: api.AcDeliver}, 4, api.OK},
		{api.Rule{At: 0x0A000000, Len: 8, Act: api.AcDrop}, 4, api.OK},
		{api.Rule{At: 0, Len: 0, Act: api.AcDrop}, 1, api.OK},
		{api.Rule{At: 0xFFFFFFFF, Len: 32, Act: api.AcDeliver}, 1, api.OK},
		{api.Rule{At: 0, Len: 0, Act: api.AcDrop}, 0, api.OK}, // of no nodes: only a rule that sends on asks for one
		{api.Rule{At: 0, Len: 0, Act: api.AcDeliver}, -1, api.OK},
		{api.Rule{At: 0, Len: 0, Act: api.AcDeliver}, math.MinInt, api.OK},
		{api.Rule{At: 0, Len: 0, Act: api.AcNext, Next: 255}, 256, api.OK},
		{api.Rule{At: 0, Len: 0, Act: api.AcNext, Next: 256}, 257, api.OK}, // however many nodes there are said to be
		{api.Rule{At: 0, Len: 0, Act: api.AcNext, Next: 65536}, math.MaxInt, api.OK},
		{api.Rule{At: 0, Len: 0, Act: api.AcNext, Next: math.MaxInt - 1}, math.MaxInt, api.OK},

		{api.Rule{At: 0x0A000000, Len: 8, Act: api.AcNext, Next: 4}, 4, api.ErrNode},
		{api.Rule{At: 0x0A000000, Len: 8, Act: api.AcNext, Next: 5}, 4, api.ErrNode},
		{api.Rule{At: 0x0A000000, Len: 8, Act: api.AcNext, Next: -1}, 4, api.ErrNode},
		{api.Rule{At: 0x0A000000, Len: 8, Act: api.AcNext, Next: 0}, 0, api.ErrNode},
		{api.Rule{At: 0x0A000000, Len: 8, Act: api.AcNext, Next: 0}, -1, api.ErrNode},
		{api.Rule{At: 0x0A000000, Len: 8, Act: api.AcNext, Next: -2}, -1, api.ErrNode},
		{api.Rule{At: 0, Len: 0, Act: api.AcNext, Next: 256}, 256, api.ErrNode},
		{api.Rule{At: 0, Len: 0, Act: api.AcNext, Next: 1 << 32}, 4, api.ErrNode},
		{api.Rule{At: 0, Len: 0, Act: api.AcNext, Next: math.MaxInt}, math.MaxInt, api.ErrNode},
		{api.Rule{At: 0, Len: 0, Act: api.AcNext, Next: math.MinInt}, math.MinInt, api.ErrNode},
		{api.Rule{At: 0, Len: 0, Act: api.AcNext, Next: math.MinInt}, math.MaxInt, api.ErrNode},
		{api.Rule{At: 0x0A000000, Len: 8, Act: api.AcDeliver, Next: 1}, 4, api.ErrNode},
		{api.Rule{At: 0x0A000000, Len: 8, Act: api.AcDeliver, Next: -1}, 4, api.ErrNode},
		{api.Rule{At: 0x0A000000, Len: 8, Act: api.AcDrop, Next: 3}, 4, api.ErrNode},
		{api.Rule{At: 0x0A000000, Len: 8, Act: api.AcDrop, Next: -1}, 4, api.ErrNode},
		{api.Rule{At: 0x0A000000, Len: 8, Act: api.AcDrop, Next: 1 << 32}, 4, api.ErrNode},

		{api.Rule{At: 0x0A000000, Len: 8}, 4, api.ErrAct},
		{api.Rule{At: 0x0A000000, Len: 8, Act: 4}, 4, api.ErrAct},
		{api.Rule{At: 0x0A000000, Len: 8, Act: -1}, 4, api.ErrAct},
		{api.Rule{At: 0x0A000000, Len: 8, Act: 257}, 4, api.ErrAct},
		{api.Rule{At: 0x0A000000, Len: 8, Act: 1<<32 + 1}, 4, api.ErrAct},
		{api.Rule{At: 0x0A000000, Len: 8, Act: math.MaxInt}, 4, api.ErrAct},
		{api.Rule{At: 0x0A000000, Len: 8, Act: math.MinInt + 2}, 4, api.ErrAct},
		{api.Rule{}, 4, api.ErrAct},
		{api.Rule{At: 0x0A000000, Len: 8, Act: 0, Next: 9}, 4, api.ErrAct}, // and a node that there is not
		{api.Rule{At: 0x0A000000, Len: 8, Act: 4, Next: -1}, 4, api.ErrAct},

		{api.Rule{At: 0x0A000001, Len: 8, Act: api.AcDrop}, 4, api.ErrHost},
		{api.Rule{At: 1, Len: 0, Act: api.AcNext, Next: 3}, 4, api.ErrHost},
		{api.Rule{At: 0xFFFFFFFF, Len: 31, Act: api.AcDeliver}, 4, api.ErrHost},
		{api.Rule{At: 0x0A000001, Len: 8, Act: 0}, 4, api.ErrHost}, // and an action that there is not
		{api.Rule{At: 0x0A000001, Len: 8, Act: api.AcNext, Next: 4}, 4, api.ErrHost},
		{api.Rule{At: 0x0A000001, Len: 8, Act: api.AcDrop, Next: 4}, 4, api.ErrHost},
		{api.Rule{At: 0x0A000001, Len: 8, Act: 4, Next: 4}, 4, api.ErrHost},

		{api.Rule{At: 0, Len: -1, Act: api.AcDrop}, 4, api.ErrSize},
		{api.Rule{At: 0, Len: 33, Act: api.AcDrop}, 4, api.ErrSize},
		{api.Rule{At: 1, Len: 33, Act: api.AcNext, Next: 3}, 4, api.ErrSize},
		{api.Rule{At: 1, Len: -1, Act: api.AcDeliver}, 4, api.ErrSize}, // and bits behind
		{api.Rule{At: 1, Len: math.MinInt, Act: 9, Next: 9}, 4, api.ErrSize},
		{api.Rule{At: 1, Len: math.MaxInt, Act: 0, Next: -9}, 0, api.ErrSize},
	} {
		if e := May(x.r, x.nodes); e != x.want {
			t.Errorf("May(%v, %d): %d; want %d", x.r, x.nodes, e, x.want)
		}
	}
}

// P7.1: of each length, with bits behind it and without, each action and each node about the bounds.
func TestMayOfManyRules(t *testing.T) {
	for n := -2; n <= 35; n++ {
		for _, at := range []uint32{0, 1, 0x0A000000, 0x80000000, 0xFFFFFFFF, ^uint32(0) << (32 - min(max(n, 0), 32))} {
			for act := -2; act <= 6; act++ {
				for next := -2; next <= 5; next++ {
					for nodes := -2; nodes <= 5; nodes++ {
						mays(t, api.Rule{At: at, Len: n, Act: act, Next: next}, nodes)
					}
				}
			}
		}
	}
}

// P7.1: of actions, nodes and how many of them there are at all bounds and far off.
func TestMayOfNumbersFarOff(t *testing.T) {
	for _, far := range edges() {
		mays(t, api.Rule{At: 0x0A000000, Len: far, Act: api.AcNext, Next: 3}, 4)
		mays(t, api.Rule{At: 0, Len: far, Act: api.AcDrop}, 4)
		for _, next := range edges() {
			for _, nodes := range edges() {
				mays(t, api.Rule{At: 0x0A000000, Len: 8, Act: api.AcNext, Next: next}, nodes)
			}
			for _, act := range []int{far, api.AcDeliver, api.AcDrop} {
				mays(t, api.Rule{At: 0x0A000000, Len: 8, Act: act, Next: next}, far)
				mays(t, api.Rule{At: 0x0A000000, Len: 5, Act: act, Next: next}, far)
			}
		}
	}
}

// P7.1: of each number of nodes that there may be each one below it may be the next, and no other.
func TestMayOfEachNode(t *testing.T) {
	for nodes := range api.MaxNodes + 1 {
		for next := -1; next <= api.MaxNodes+1; next++ {
			want := api.ErrNode
			if next >= 0 && next < nodes {
				want = api.OK
			}
			if e := May(api.Rule{At: 0x0A000000, Len: 8, Act: api.AcNext, Next: next}, nodes); e != want {
				t.Errorf("May of next %d, %d nodes: %d; want %d", next, nodes, e, want)
			}
		}
	}
}

// P7.2: rules whose order is known: what becomes of packets is not asked.
func TestCompareTellsWhatIsKnown(t *testing.T) {
	for _, x := range []struct {
		a, b api.Rule
		want int
	}{
		{api.Rule{}, api.Rule{}, 0},
		{api.Rule{At: 0x0A000000, Len: 8, Act: 1, Next: 3}, api.Rule{At: 0x0A000000, Len: 8, Act: 1, Next: 3}, 0},
		{api.Rule{At: 0x0A000000, Len: 8, Act: 1, Next: 3}, api.Rule{At: 0x0A000000, Len: 8, Act: 3, Next: 0}, 0},
		{api.Rule{At: 0x0A000000, Len: 8, Act: 1, Next: 3}, api.Rule{At: 0x0A000000, Len: 8, Act: 1, Next: 4}, 0},
		{api.Rule{At: 0x0A000000, Len: 8, Act: 3, Next: 9}, api.Rule{At: 0x0A000000, Len: 16, Act: 1, Next: 3}, -1},
		{api.Rule{At: 0x0A000000, Len: 32, Act: 3, Next: 9}, api.Rule{At: 0x0B000000, Len: 8, Act: 1, Next: 3}, -1},
		{api.Rule{At: 0x7FFFFFFF, Len: 32}, api.Rule{At: 0x80000000, Len: 1}, -1},
		{api.Rule{At: 0, Len: 32}, api.Rule{At: 0xFFFFFFFF, Len: 0}, -1},
		{api.Rule{At: 0x0A000001, Len: 8}, api.Rule{At: 0x0A000002, Len: 8}, -1}, // rules that may not be are in order too
		{api.Rule{At: 5, Len: -1}, api.Rule{At: 5, Len: 0}, -1},
		{api.Rule{At: 5, Len: 32}, api.Rule{At: 5, Len: 33}, -1},
		{api.Rule{At: 5, Len: 8}, api.Rule{At: 5, Len: 1<<32 + 8}, -1},
		{api.Rule{At: 5, Len: math.MinInt}, api.Rule{At: 5, Len: math.MaxInt}, -1},
	} {
		if c := Compare(x.a, x.b); c != x.want {
			t.Errorf("Compare(%v, %v): %d; want %d", x.a, x.b, c, x.want)
		}
		if c := Compare(x.b, x.a); c != -x.want {
			t.Errorf("Compare(%v, %v): %d; want %d", x.b, x.a, c, -x.want)
		}
	}
}

// P7.2: of many pairs, whatever becomes of their packets.
func TestCompareOfManyPairs(t *testing.T) {
	var all []api.Rule
	for _, at := range fewAts() {
		for _, n := range []int{math.MinInt, -1, 0, 1, 7, 8, 32, 33, 256, 1<<32 + 8, math.MaxInt} {
			all = append(all, api.Rule{At: at, Len: n, Act: 1, Next: 3}, api.Rule{At: at, Len: n, Act: 3}, api.Rule{At: at, Len: n, Act: -7, Next: math.MaxInt})
		}
	}
	for _, a := range all {
		for _, b := range all {
			if c, want := Compare(a, b), compareTold(a, b); c != want {
				t.Errorf("Compare(%v, %v): %d; want %d", a, b, c, want)
			}
		}
	}
}

// P7.3: rules and bytes that are known, the chapter's among them; rules that may not be are put and taken as well.
func TestPutAndTakeTellWhatIsKnown(t *testing.T) {
	for _, x := range []struct {
		r api.Rule
		b []byte
	}{
		{api.Rule{At: 0x0A000000, Len: 8, Act: api.AcNext, Next: 3}, []byte{10, 0, 0, 0, 8, 1, 0, 3}},
		{api.Rule{}, []byte{0, 0, 0, 0, 0, 0, 0, 0}},
		{api.Rule{At: 0xFFFFFFFF, Len: 255, Act: 255, Next: 65535}, []byte{255, 255, 255, 255, 255, 255, 255, 255}},
		{api.Rule{At: 0x01020304, Len: 5, Act: 6, Next: 0x0708}, []byte{1, 2, 3, 4, 5, 6, 7, 8}},
		{api.Rule{At: 0x80000000, Len: 1, Act: api.AcDrop}, []byte{128, 0, 0, 0, 1, 3, 0, 0}},
		{api.Rule{At: 0x00000001, Len: 32, Act: api.AcDeliver}, []byte{0, 0, 0, 1, 32, 2, 0, 0}},
		{api.Rule{At: 0, Len: 0, Act: api.AcNext, Next: 255}, []byte{0, 0, 0, 0, 0, 1, 0, 255}},
		{api.Rule{At: 0, Len: 0, Act: api.AcNext, Next: 256}, []byte{0, 0, 0, 0, 0, 1, 1, 0}},
		{api.Rule{At: 0x0A000102, Len: 8, Act: 9, Next: 32768}, []byte{10, 0, 1, 2, 8, 9, 128, 0}},
		{api.Rule{At: 0x0A000102, Len: 33, Act: 0, Next: 1}, []byte{10, 0, 1, 2, 33, 0, 0, 1}},
	} {
		if b, e := Put(x.r); !bytes.Equal(b, x.b) || e != api.OK {
			t.Errorf("Put(%v): %v, %d; want %v", x.r, b, e, x.b)
		}
		for _, behind := range [][]byte{nil, {0}, {255}, {9, 9, 9, 9, 9, 9, 9, 9}} {
			if r, e := Take(append(bytes.Clone(x.b), behind...)); r != x.r || e != api.OK {
				t.Errorf("Take(%v %v): %v, %d; want %v", x.b, behind, r, e, x.r)
			}
		}
	}
}

// P7.3: a number that has no room in its bytes, in each field, tells ErrSize, and (R2) nothing beside it.
func TestPutRefuses(t *testing.T) {
	for _, r := range []api.Rule{
		{Len: -1}, {Len: 256}, {Len: 257}, {Len: 1 << 32}, {Len: math.MinInt}, {Len: math.MaxInt},
		{Act: -1}, {Act: 256}, {Act: 257}, {Act: 1 << 32}, {Act: math.MinInt}, {Act: math.MaxInt},
		{Next: -1}, {Next: 65536}, {Next: 65537}, {Next: 1 << 32}, {Next: math.MinInt}, {Next: math.MaxInt},
		{At: 0x0A000000, Len: 8, Act: api.AcNext, Next: -1},
		{At: 0x0A000000, Len: 8, Act: api.AcNext, Next: 65536},
		{At: 0x0A000000, Len: 8, Act: 256, Next: 3},
		{At: 0x0A000000, Len: 256, Act: api.AcNext, Next: 3},
		{At: 0xFFFFFFFF, Len: -1, Act: -1, Next: -1},
	} {
		if b, e := Put(r); b != nil || e != api.ErrSize {
			t.Errorf("Put(%v): %v, %d; want error %d", r, b, e, api.ErrSize)
		}
	}
}

// P7.3: each field's numbers at all bounds and far off, each address of many kinds.
func TestPutOfManyRules(t *testing.T) {
	for _, at := range someAts() {
		puts(t, api.Rule{At: at})
		puts(t, api.Rule{At: at, Len: 32, Act: api.AcNext, Next: 255})
	}
	for _, at := range fewAts() {
		for _, n := range edges() {
			for _, act := range edges() {
				for _, next := range edges() {
					puts(t, api.Rule{At: at, Len: n, Act: act, Next: next})
				}
			}
		}
	}
}

// P7.3: each number of each field that there is room for is its own row of bytes, and is taken as it was put; others are refused.
func TestPutOfEachNumberAndBack(t *testing.T) {
	whole := api.Rule{At: 0x01020304, Len: 5, Act: 6, Next: 0x0708}
	back := func(r api.Rule, bound, n int) {
		b, e := Put(r)
		if n < 0 || n >= bound {
			if b != nil || e != api.ErrSize {
				t.Errorf("Put(%v): %v, %d; want error %d", r, b, e, api.ErrSize)
			}
			return
		}
		if got, wrong := Take(b); got != r || e != api.OK || wrong != api.OK || len(b) != 8 {
			t.Errorf("Put(%v): %v, %d, taken as %v, %d", r, b, e, got, wrong)
		}
	}
	for n := -70000; n <= 70000; n++ {
		r := whole
		r.Next = n
		back(r, 65536, n)
		r = whole
		r.Len = n
		back(r, 256, n)
		r = whole
		r.Act = n
		back(r, 256, n)
	}
}

// P7.3: each byte is of its own field, and of all its worth.
func TestTakeOfEachByte(t *testing.T) {
	for i := range 8 {
		for c := range 256 {
			for _, other := range []byte{0, 1, 0x5A, 255} {
				b := bytes.Repeat([]byte{other}, 8)
				b[i] = byte(c)
				takes(t, b)
				takes(t, append(b, 7))
				r, e := Take(b)
				if e != api.OK {
					t.Errorf("Take(%v): error %d", b, e)
				}
				if again, e := Put(r); !bytes.Equal(again, b) || e != api.OK {
					t.Errorf("Put(Take(%v)): %v, %d", b, again, e)
				}
			}
		}
	}
}

// P7.3: fewer than 8 bytes tell ErrShort, and (R2) nothing beside it, though there are more bytes behind them in memory.
func TestTakeRefusesFewBytes(t *testing.T) {
	for _, whole := range [][]byte{{10, 0, 0, 0, 8, 1, 0, 3, 9, 9}, {255, 255, 255, 255, 255, 255, 255, 255, 255}, {0, 0, 0, 0, 0, 0, 0, 0}} {
		for n := range 8 {
			for _, b := range [][]byte{whole[:n], whole[:n:n], bytes.Clone(whole[:n])} {
				if r, e := Take(b); r != (api.Rule{}) || e != api.ErrShort {
					t.Errorf("Take(%v): %v, %d; want error %d", b, r, e, api.ErrShort)
				}
			}
		}
		takes(t, whole[:8])
		takes(t, whole[:8:8])
	}
	if r, e := Take(nil); r != (api.Rule{}) || e != api.ErrShort {
		t.Errorf("Take(nil): %v, %d; want error %d", r, e, api.ErrShort)
	}
}

// P7.3: of many bytes the first 8 are taken, and no other is asked.
func TestTakeOfManyBytes(t *testing.T) {
	long := make([]byte, 100000)
	for i := range long {
		long[i] = byte(i*7 + i>>8)
	}
	for from := range 2000 {
		takes(t, long[from:])
		takes(t, long[from:from+8])
		takes(t, long[from:from+9])
	}
}

// P7.2 and P7.3: of rules in order the bytes are in order, too, where the prefixes are not the same.
func TestBytesAreInTheOrderOfRules(t *testing.T) {
	var all []api.Rule
	for _, at := range fewAts() {
		for _, n := range []int{0, 1, 8, 32, 128, 255} {
			all = append(all, api.Rule{At: at, Len: n, Act: n % 3, Next: n * 100})
		}
	}
	for _, a := range all {
		for _, b := range all {
			p, _ := Put(a)
			q, _ := Put(b)
			if c := bytes.Compare(p, q); c != Compare(a, b) {
				t.Errorf("%v and %v: bytes %d, Compare %d", a, b, c, Compare(a, b))
			}
		}
	}
}

// R7: what is handed in is not changed, what is told is its own.
func TestNothingIsShared(t *testing.T) {
	r := api.Rule{At: 0x0A000000, Len: 8, Act: api.AcNext, Next: 3}
	want := []byte{10, 0, 0, 0, 8, 1, 0, 3}
	first, _ := Put(r)
	second, _ := Put(r)
	whole := first[:cap(first)]
	for i := range whole {
		whole[i] = 0xEE
	}
	if third, _ := Put(r); !bytes.Equal(second, want) || !bytes.Equal(third, want) {
		t.Errorf("Put: %v, %v, after the first answer was written over", second, third)
	}
	for n := range 12 {
		b := []byte{10, 0, 0, 0, 8, 1, 0, 3, 77, 78, 79, 80}
		before := slices.Clone(b)
		got, e := Take(b[:n])
		if !bytes.Equal(b, before) {
			t.Errorf("Take of %d bytes changed them: %v", n, b)
		}
		for i := range b {
			b[i] = 0xEE
		}
		if n >= 8 && (got != r || e != api.OK) {
			t.Errorf("Take of %d bytes: %v, %d", n, got, e)
		}
	}
}

// R6: what is told hangs on the arguments alone, not on what was asked ahead.
func TestCallsTellTheSameAgain(t *testing.T) {
	good := api.Rule{At: 0x0A000000, Len: 8, Act: api.AcNext, Next: 3}
	for range 3 {
		for _, r := range []api.Rule{good, {Len: 256}, {}, {At: 1}, {Act: 3, Next: 1}, good} {
			puts(t, r)
			mays(t, r, 4)
			mays(t, r, 3)
		}
		for _, b := range [][]byte{{10, 0, 0, 0, 8, 1, 0, 3}, {1}, {255, 255, 255, 255, 255, 255, 255, 255}, nil, {0, 0, 0, 0, 0, 0, 0, 0}} {
			takes(t, b)
		}
		if Compare(good, api.Rule{}) != 1 || Compare(api.Rule{}, good) != -1 || Compare(good, good) != 0 {
			t.Error("Compare: not the same again")
		}
	}
}
