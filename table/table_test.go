package table

import (
	"cmp"
	"fmt"
	"math"
	"slices"
	"testing"

	"theseus/api"
)

// to is a rule that sends on to a node.
func to(at uint32, n, next int) api.Rule {
	return api.Rule{At: at, Len: n, Act: api.AcNext, Next: next}
}

// drop is a rule that sends nowhere.
func drop(at uint32, n int) api.Rule {
	return api.Rule{At: at, Len: n, Act: api.AcDrop}
}

// deliver is another one that sends nowhere.
func deliver(at uint32, n int) api.Rule {
	return api.Rule{At: at, Len: n, Act: api.AcDeliver}
}

// bits are an address's 32, the highest one first.
func bits(a uint32) string {
	return fmt.Sprintf("%032b", a)
}

// firstOf is how many bits of an address a prefix of this length asks.
func firstOf(n int) int {
	return min(max(n, 0), 32)
}

// holdsTold is what the document says that a rule holds.
func holdsTold(r api.Rule, a uint32) bool {
	n := firstOf(r.Len)
	return bits(r.At)[:n] == bits(a)[:n]
}

// ruleTold is what the document says that is wrong with a rule.
func ruleTold(r api.Rule, nodes int) api.Errno {
	if r.Len < 0 || r.Len > 32 {
		return api.ErrSize
	}
	for _, bit := range bits(r.At)[r.Len:] {
		if bit == '1' {
			return api.ErrHost
		}
	}
	if r.Act != 1 && r.Act != 2 && r.Act != 3 {
		return api.ErrAct
	}
	if r.Act == 1 && !(0 <= r.Next && r.Next < nodes) || r.Act != 1 && r.Next != 0 {
		return api.ErrNode
	}
	return api.OK
}

// mayTold is what the document says that May tells.
func mayTold(l []api.Rule, nodes int) api.Errno {
	for i, r := range l {
		if e := ruleTold(r, nodes); e != api.OK {
			return e
		}
		if i == 0 {
			continue
		}
		if before := l[i-1]; r.At < before.At || r.At == before.At && r.Len <= before.Len {
			return api.ErrOrder
		}
	}
	return api.OK
}

// findTold is what the document says that Find tells: the first one that holds the address, and that no other one that does is longer than.
func findTold(l []api.Rule, a uint32) (api.Rule, bool) {
	var held []api.Rule
	for _, r := range l {
		if holdsTold(r, a) {
			held = append(held, r)
		}
	}
	for _, r := range held {
		if !slices.ContainsFunc(held, func(other api.Rule) bool { return other.Len > r.Len }) {
			return r, true
		}
	}
	return api.Rule{}, false
}

// mays tells of a May that is not as the document says.
func mays(t *testing.T, l []api.Rule, nodes int) {
	t.Helper()
	if e, want := May(l, nodes), mayTold(l, nodes); e != want {
		t.Errorf("May(%.200v, %d): %d; want %d", l, nodes, e, want)
	}
}

// finds tells of a Find, or a Next, that is not as the document says.
func finds(t *testing.T, l []api.Rule, a uint32) {
	t.Helper()
	want, wantOk := findTold(l, a)
	if r, ok := Find(l, a); r != want || ok != wantOk {
		t.Errorf("Find(%.200v, %08X): %v, %t; want %v, %t", l, a, r, ok, want, wantOk)
	}
	node, sent := 0, false
	if wantOk && want.Act == 1 {
		node, sent = want.Next, true
	}
	if v, ok := Next(l, a); v != node || ok != sent {
		t.Errorf("Next(%.200v, %08X): %d, %t; want %d, %t", l, a, v, ok, node, sent)
	}
}

// someRules are rules of all kinds: such as may be, such as may not, some that stand side by side or one in another.
func someRules() []api.Rule {
	return []api.Rule{
		to(0, 0, 0), drop(0, 0), to(0, 1, 1), deliver(0, 32), to(0x0A000000, 8, 3), to(0x0A000000, 8, 2), drop(0x0A000000, 8), to(0x0A000000, 16, 0), to(0x0A010000, 16, 1),
		deliver(0x0A010200, 24), to(0x0A010203, 32, 2), to(0x80000000, 1, 0), drop(0xFFFFFFFF, 32), to(0x0A000000, 8, 4), to(0x0A000000, 8, -1),
		{At: 0x0A000000, Len: 8, Act: 2, Next: 1}, {At: 0x0A000000, Len: 8}, {At: 0x0A010000, Len: 16, Act: 4, Next: 9}, {At: 0x0A010203, Len: 16, Act: 1}, {At: 0x0A010203, Len: 8, Act: 3},
		{At: 0x0A010203, Len: 33, Act: 1, Next: 2}, {At: 0x0A010203, Len: -1, Act: 1, Next: 3}, {At: 0, Len: math.MaxInt, Act: 1}, {At: 0xFFFFFFFF, Len: math.MinInt, Act: 3},
	}
}

// someAddresses are those that someRules hold, and some about their ends.
func someAddresses() []uint32 {
	return []uint32{0, 1, 0x09FFFFFF, 0x0A000000, 0x0A000001, 0x0A00FFFF, 0x0A010000, 0x0A010100, 0x0A0101FF, 0x0A010200, 0x0A010202, 0x0A010203, 0x0A010204, 0x0A0102FF, 0x0A010300, 0x0A01FFFF, 0x0A020000, 0x0AFFFFFF, 0x0B000000, 0x7FFFFFFF, 0x80000000, 0xFFFFFFFE, 0xFFFFFFFF}
}

// drawn makes numbers that look like no order at all, the same ones of each beginning.
func drawn(beginning uint64) func(below int) int {
	state := beginning
	return func(below int) int {
		state = state*6364136223846793005 + 1442695040888963407
		return int(state>>33) % below
	}
}

// ordered is a table that may be, of up to so many rules with few unlike bits, so that many of them hold one address.
func ordered(draw func(below int) int, size, nodes int) []api.Rule {
	var l []api.Rule
	for range draw(size + 1) {
		n := draw(33)
		at := uint32(uint64(draw(16)<<28|draw(4)<<14|draw(4)) >> (32 - n) << (32 - n))
		act := 1 + draw(3)
		r := api.Rule{At: at, Len: n, Act: act}
		if act == 1 {
			r.Next = draw(nodes)
		}
		l = append(l, r)
	}
	slices.SortFunc(l, func(p, q api.Rule) int { return cmp.Or(cmp.Compare(p.At, q.At), cmp.Compare(p.Len, q.Len)) })
	return slices.CompactFunc(l, func(p, q api.Rule) bool { return p.At == q.At && p.Len == q.Len })
}

// P8.1: tables that may be.
func TestMayOfTablesThatMayBe(t *testing.T) {
	for i, l := range [][]api.Rule{
		nil,
		{},
		{to(0, 0, 0)},
		{to(0x0A000000, 8, 1), to(0x0A010000, 16, 2)},
		{to(0, 0, 0), to(0, 1, 1), drop(0, 32)},                                           // of one address the shorter one is ahead
		{drop(0, 32), to(1, 32, 3), deliver(2, 32)},                                       // the address is asked first
		{to(0x0A000000, 32, 0), to(0x0B000000, 8, 0)},                                     // a longer one ahead of a shorter one
		{to(0x7FFFFFFF, 32, 0), to(0x80000000, 1, 0)},                                     // addresses are not below 0
		{to(0x00000000, 8, 3), to(0x00000000, 9, 3), to(0x01000000, 8, 3)},                // all send alike
		{deliver(0, 0), drop(0, 1), deliver(0x40000000, 2), drop(0xFFFFFFFF, 32)},         // none sends on
		{to(0, 0, 3), to(0x0A000000, 8, 2), to(0x0A000000, 16, 1), to(0x0A010000, 16, 0)}, // nodes need not rise
	} {
		if e := May(l, 4); e != api.OK {
			t.Errorf("%d: May(%v, 4): %d; want 0", i, l, e)
		}
	}
	for _, nodes := range []int{math.MinInt, -1, 0} { // of no nodes a table may drop and deliver
		if e := May([]api.Rule{drop(0, 0), deliver(0, 1)}, nodes); e != api.OK {
			t.Errorf("May of %d nodes: %d; want 0", nodes, e)
		}
		if e := May(nil, nodes); e != api.OK {
			t.Errorf("May of no rules, of %d nodes: %d; want 0", nodes, e)
		}
	}
}

// P8.1: each of rule.May's errors, wherever the rule is.
func TestMayTellsWhatIsWrongWithARule(t *testing.T) {
	good := []api.Rule{to(0, 0, 0), deliver(0x08000000, 8), to(0x0B000000, 8, 3), drop(0xFFFFFFFF, 32)}
	for _, x := range []struct {
		r    api.Rule
		want api.Errno
	}{
		{api.Rule{At: 0x0A000000, Len: -1, Act: api.AcDrop}, api.ErrSize},
		{api.Rule{At: 0x0A000000, Len: 33, Act: api.AcDrop}, api.ErrSize},
		{api.Rule{At: 0x0A000000, Len: math.MaxInt, Act: 9, Next: 9}, api.ErrSize},
		{drop(0x0A000001, 8), api.ErrHost},
		{drop(0x0A000000, 6), api.ErrHost},
		{api.Rule{At: 0x0A000001, Len: 31, Act: 9, Next: 9}, api.ErrHost},
		{api.Rule{At: 0x0A000000, Len: 8}, api.ErrAct},
		{api.Rule{At: 0x0A000000, Len: 8, Act: 4}, api.ErrAct},
		{api.Rule{At: 0x0A000000, Len: 8, Act: -1, Next: 9}, api.ErrAct},
		{to(0x0A000000, 8, 4), api.ErrNode},
		{to(0x0A000000, 8, -1), api.ErrNode},
		{api.Rule{At: 0x0A000000, Len: 8, Act: api.AcDrop, Next: 1}, api.ErrNode},
		{api.Rule{At: 0x0A000000, Len: 8, Act: api.AcDeliver, Next: -1}, api.ErrNode},
	} {
		if e := May([]api.Rule{x.r}, 4); e != x.want {
			t.Errorf("May of %v alone: %d; want %d", x.r, e, x.want)
		}
		for i := range len(good) + 1 {
			if l := slices.Insert(slices.Clone(good), i, x.r); May(l, 4) != x.want {
				t.Errorf("May(%v, 4): %d; want %d", l, May(l, 4), x.want)
			}
		}
	}
}

// P8.1: rules that do not rise, wherever they are.
func TestMayTellsWhatDoesNotRise(t *testing.T) {
	for _, x := range [][2]api.Rule{
		{to(0x0A000000, 8, 1), to(0x0A000000, 8, 1)},
		{to(0x0A000000, 8, 1), to(0x0A000000, 8, 2)}, // what becomes of packets is not asked
		{to(0x0A000000, 8, 1), drop(0x0A000000, 8)},
		{drop(0x0A000000, 8), to(0x0A000000, 8, 3)},
		{deliver(0x0A000000, 8), drop(0x0A000000, 8)},
		{to(0x0A000000, 16, 1), to(0x0A000000, 8, 1)},
		{to(0x0A000000, 32, 1), to(0x0A000000, 31, 2)},
		{to(0x0B000000, 8, 1), to(0x0A000000, 8, 2)},
		{to(0x0B000000, 8, 1), to(0x0A000000, 32, 2)},
		{to(0x0A010000, 16, 1), to(0x0A000000, 8, 2)},
	} {
		for _, l := range [][]api.Rule{
			{x[0], x[1]},
			{x[0], x[1], to(0x0C000000, 8, 0)},
			{to(0, 0, 0), x[0], x[1]},
			{to(0, 0, 0), drop(0, 1), x[0], x[1], to(0x0C000000, 8, 0), drop(0xFFFFFFFF, 32)},
		} {
			if e := May(l, 4); e != api.ErrOrder {
				t.Errorf("May(%v, 4): %d; want %d", l, e, api.ErrOrder)
			}
		}
	}
	if e := May([]api.Rule{to(0x80000000, 1, 0), to(0x7FFFFFFF, 32, 0)}, 4); e != api.ErrOrder {
		t.Errorf("May of an address with the highest bit ahead of others: %d; want %d", e, api.ErrOrder)
	}
	if e := May([]api.Rule{drop(0, 0), drop(1<<31, 1), drop(0, 1)}, 4); e != api.ErrOrder { // above the first one, but not the one ahead
		t.Errorf("May of a last rule that is above the first one alone: %d; want %d", e, api.ErrOrder)
	}
}

// P8.1 and R3: rule by rule, the first one that is wrong; of one rule what is wrong with it is told ahead of its order.
func TestMayTellsTheFirstError(t *testing.T) {
	size, host, act, node := drop(0, 40), drop(1, 0), api.Rule{At: 0, Len: 0, Act: 7}, to(0, 0, 9)
	high := drop(0x0B000000, 8)
	for _, x := range []struct {
		l    []api.Rule
		want api.Errno
	}{
		{[]api.Rule{high, act}, api.ErrAct}, // and below the one ahead
		{[]api.Rule{high, node}, api.ErrNode},
		{[]api.Rule{high, host}, api.ErrHost},
		{[]api.Rule{high, size}, api.ErrSize},
		{[]api.Rule{high, high, size}, api.ErrOrder}, // an order that is wrong ahead of a rule that is
		{[]api.Rule{high, high, act}, api.ErrOrder},
		{[]api.Rule{high, drop(0, 0), node, size}, api.ErrOrder},
		{[]api.Rule{node, size}, api.ErrNode}, // not the one that the document names first, of both rules
		{[]api.Rule{size, node}, api.ErrSize},
		{[]api.Rule{act, host, size}, api.ErrAct},
		{[]api.Rule{drop(0, 0), node, act, host, size}, api.ErrNode},
		{[]api.Rule{act, high, high}, api.ErrAct},
		{[]api.Rule{node, drop(0, 0), to(0, 1, 1)}, api.ErrNode}, // good rules behind it hide nothing
		{[]api.Rule{high, high, drop(0x0C000000, 8), drop(0x0D000000, 8)}, api.ErrOrder},
	} {
		if e := May(x.l, 4); e != x.want {
			t.Errorf("May(%v, 4): %d; want %d", x.l, e, x.want)
		}
	}
}

// P8.1: a node must be there in each network of so many nodes, and in no other.
func TestMayOfEachCountOfNodes(t *testing.T) {
	for _, next := range []int{0, 1, 3, 255, 256, 65536} {
		l := []api.Rule{drop(0, 0), to(0, 1, next), deliver(0x80000000, 1)}
		for _, nodes := range []int{math.MinInt, -1, 0, 1, 2, 3, 4, 255, 256, 257, 65536, 65537, math.MaxInt} {
			mays(t, l, nodes)
		}
	}
}

// P8.1: of all rows of up to three of some rules, by the document's words.
func TestMayOfAllShortTables(t *testing.T) {
	for _, nodes := range []int{0, 3, 4} {
		for _, p := range someRules() {
			mays(t, []api.Rule{p}, nodes)
			for _, q := range someRules() {
				mays(t, []api.Rule{p, q}, nodes)
				for _, r := range someRules() {
					mays(t, []api.Rule{p, q, r}, nodes)
				}
			}
		}
	}
}

// P8.1: long tables, of which there is no bound here; with two rules changed about, or one of them put twice.
func TestMayOfLongTables(t *testing.T) {
	var l []api.Rule
	for i := range 3 * api.MaxRules {
		l = append(l, to(uint32(i)<<8, 24, i%256))
	}
	mays(t, l, 256)
	if e := May(l, 256); e != api.OK {
		t.Errorf("May of %d rules: %d; want 0", len(l), e)
	}
	if e := May(l, 255); e != api.ErrNode {
		t.Errorf("May of %d rules, one node too few: %d; want %d", len(l), e, api.ErrNode)
	}
	for _, i := range []int{1, 2, 100, api.MaxRules - 1, api.MaxRules, len(l) - 1} {
		turned := slices.Clone(l)
		turned[i-1], turned[i] = l[i], l[i-1]
		twice := slices.Insert(slices.Clone(l), i, l[i])
		if May(turned, 256) != api.ErrOrder || May(twice, 256) != api.ErrOrder {
			t.Errorf("May with rule %d changed about, or twice: %d, %d; want %d", i, May(turned, 256), May(twice, 256), api.ErrOrder)
		}
	}
}

// P8.2: what is known, the document's example among it.
func TestFindAndNextTellWhatIsKnown(t *testing.T) {
	example := []api.Rule{to(0x0A000000, 8, 1), to(0x0A010000, 16, 2)}
	nested := []api.Rule{to(0, 0, 5), drop(0x0A000000, 8), to(0x0A010000, 16, 0), deliver(0x0A010200, 24), to(0x0A010203, 32, 4)}
	for _, x := range []struct {
		l    []api.Rule
		a    uint32
		want api.Rule
		ok   bool
		node int
		sent bool
	}{
		{example, 0x0A010203, example[1], true, 2, true},
		{example, 0x0A020203, example[0], true, 1, true},
		{example, 0x0A000000, example[0], true, 1, true},
		{example, 0x0A00FFFF, example[0], true, 1, true},
		{example, 0x0A010000, example[1], true, 2, true},
		{example, 0x0A01FFFF, example[1], true, 2, true},
		{example, 0x0A020000, example[0], true, 1, true},
		{example, 0x0AFFFFFF, example[0], true, 1, true},
		{example, 0x0B000000, api.Rule{}, false, 0, false},
		{example, 0x09FFFFFF, api.Rule{}, false, 0, false},
		{example, 0, api.Rule{}, false, 0, false},

		{nested, 0, nested[0], true, 5, true},
		{nested, 0xFFFFFFFF, nested[0], true, 5, true},
		{nested, 0x0AFFFFFF, nested[1], true, 0, false}, // a longer one that drops stands over a shorter one that sends on
		{nested, 0x0A01FFFF, nested[2], true, 0, true},  // a node 0 is one, too
		{nested, 0x0A0102FF, nested[3], true, 0, false},
		{nested, 0x0A010202, nested[3], true, 0, false},
		{nested, 0x0A010203, nested[4], true, 4, true},
		{nested, 0x0A010204, nested[3], true, 0, false},

		{nil, 0, api.Rule{}, false, 0, false},
		{[]api.Rule{}, 0xFFFFFFFF, api.Rule{}, false, 0, false},
		{[]api.Rule{drop(0, 0)}, 0x12345678, drop(0, 0), true, 0, false},
		{[]api.Rule{to(0xFFFFFFFF, 32, 7)}, 0xFFFFFFFF, to(0xFFFFFFFF, 32, 7), true, 7, true},
		{[]api.Rule{to(0xFFFFFFFF, 32, 7)}, 0xFFFFFFFE, api.Rule{}, false, 0, false},
		{[]api.Rule{to(0, 1, 7)}, 0x80000000, api.Rule{}, false, 0, false},
		{[]api.Rule{to(0, 1, 7)}, 0x7FFFFFFF, to(0, 1, 7), true, 7, true},
	} {
		if r, ok := Find(x.l, x.a); r != x.want || ok != x.ok {
			t.Errorf("Find(%v, %08X): %v, %t; want %v, %t", x.l, x.a, r, ok, x.want, x.ok)
		}
		if v, ok := Next(x.l, x.a); v != x.node || ok != x.sent {
			t.Errorf("Next(%v, %08X): %d, %t; want %d, %t", x.l, x.a, v, ok, x.node, x.sent)
		}
	}
}

// P8.2: rules that may not be: in any order, of any Len (which is asked as it is), with bits behind, of any Act and Next.
func TestFindAndNextOfRulesThatMayNotBe(t *testing.T) {
	odd := func(n, next int) api.Rule { return api.Rule{At: 0x0A010203, Len: n, Act: api.AcNext, Next: next} }
	for _, x := range []struct {
		l    []api.Rule
		a    uint32
		want int // its place; -1, if there is none
	}{
		{[]api.Rule{to(0x0A010000, 16, 2), to(0x0A000000, 8, 1)}, 0x0A010203, 0},
		{[]api.Rule{drop(0xFFFFFFFF, 32), to(0x0A000000, 8, 1), drop(0, 32), to(0x0A010000, 16, 2), to(0, 0, 3)}, 0x0A010203, 3},
		{[]api.Rule{to(0x0A000000, 8, 1), to(0x0A000000, 8, 2), to(0x0A000000, 8, 3)}, 0x0A010203, 0}, // of several the first one
		{[]api.Rule{to(0, 0, 0), to(0x0A000000, 8, 2), to(0, 1, 0), to(0x0A000000, 8, 1)}, 0x0A010203, 1},
		{[]api.Rule{drop(0x0A000000, 8), to(0x0A000000, 8, 1)}, 0x0A010203, 0},
		{[]api.Rule{to(0x0B000000, 8, 1), to(0x0A000000, 8, 2), to(0x0A000000, 8, 3)}, 0x0A010203, 1},

		{[]api.Rule{odd(8, 1), odd(16, 2)}, 0x0AFFFFFF, 0}, // bits behind are not asked
		{[]api.Rule{odd(8, 1), odd(16, 2)}, 0x0A01FFFF, 1},
		{[]api.Rule{to(0x0A000000, 8, 1), odd(8, 2)}, 0x0A010203, 0},

		{[]api.Rule{odd(-1, 1)}, 0xFFFFFFFF, 0}, // below 0: all are held
		{[]api.Rule{odd(math.MinInt, 1)}, 0, 0},
		{[]api.Rule{odd(math.MinInt, 1), odd(math.MinInt+1, 2)}, 0, 1},
		{[]api.Rule{odd(-2, 1), odd(-1, 2), odd(-3, 3)}, 0, 1},
		{[]api.Rule{odd(-1, 1), to(0, 0, 2)}, 5, 1},
		{[]api.Rule{to(0, 0, 2), odd(-1, 1)}, 5, 0},
		{[]api.Rule{odd(-1, 1), odd(-1, 2)}, 5, 0},
		{[]api.Rule{odd(-1<<32+8, 1), odd(1, 2)}, 5, 1},
		{[]api.Rule{odd(33, 1)}, 0x0A010203, 0}, // above 32: the address alone is held
		{[]api.Rule{odd(33, 1)}, 0x0A010202, -1},
		{[]api.Rule{odd(32, 1), odd(33, 2)}, 0x0A010203, 1},
		{[]api.Rule{odd(33, 1), odd(32, 2)}, 0x0A010203, 0},
		{[]api.Rule{odd(33, 1), odd(34, 2), odd(math.MaxInt, 3), odd(math.MaxInt, 4)}, 0x0A010203, 2},
		{[]api.Rule{odd(math.MinInt, 1), odd(math.MaxInt, 2)}, 0x0A010203, 1},
		{[]api.Rule{odd(math.MaxInt, 1), odd(math.MinInt, 2)}, 0x0A010203, 0},
		{[]api.Rule{odd(math.MaxInt, 1), odd(math.MinInt, 2)}, 0x0A010204, 1},
		{[]api.Rule{odd(1<<32, 1), odd(8, 2)}, 0x0A010203, 0},
		{[]api.Rule{odd(1<<32, 1), odd(8, 2)}, 0x0A010204, 1},

		{[]api.Rule{{}}, 0x0A010203, 0}, // a rule all of zeros is one, too
		{[]api.Rule{{}, {Next: 9}}, 0, 0},
		{[]api.Rule{to(0, 0, math.MinInt)}, 0, 0}, // any node
		{[]api.Rule{to(0, 0, -1)}, 0, 0},
		{[]api.Rule{to(0, 0, math.MaxInt)}, 0, 0},
	} {
		var want api.Rule
		if x.want >= 0 {
			want = x.l[x.want]
		}
		if r, ok := Find(x.l, x.a); r != want || ok != (x.want >= 0) {
			t.Errorf("Find(%v, %08X): %v, %t; want that of place %d", x.l, x.a, r, ok, x.want)
		}
		finds(t, x.l, x.a)
	}
}

// P8.2: of each Act Find tells the rule, but only AcNext has a Next, whatever stands in the rule; and (R2) nothing beside a false.
func TestNextOfEachAct(t *testing.T) {
	for _, act := range []int{math.MinInt, math.MinInt + 1, -1 << 32, -256, -255, -2, -1, 0, 1, 2, 3, 4, 5, 255, 256, 257, 258, 1 << 32, 1<<32 + 1, math.MaxInt} {
		for _, next := range []int{math.MinInt, -1, 0, 1, 2, 255, 256, 1 << 32, math.MaxInt} {
			r := api.Rule{At: 0x0A010000, Len: 16, Act: act, Next: next}
			for _, l := range [][]api.Rule{{r}, {to(0, 0, 5), r}, {r, to(0x0A000000, 8, 6)}, {r, to(0x0A010000, 16, 7)}} {
				if got, ok := Find(l, 0x0A010203); got != r || !ok {
					t.Errorf("Find(%v, 0A010203): %v, %t; want %v", l, got, ok, r)
				}
				want, sent := 0, false
				if act == 1 {
					want, sent = next, true
				}
				if v, ok := Next(l, 0x0A010203); v != want || ok != sent {
					t.Errorf("Next(%v, 0A010203): %d, %t; want %d, %t", l, v, ok, want, sent)
				}
			}
		}
	}
}

// P8.2: of all rows of up to three of some rules, by the document's words.
func TestFindAndNextOfAllShortTables(t *testing.T) {
	few := []uint32{0, 0x0A000001, 0x0A010203, 0xFFFFFFFF}
	for _, p := range someRules() {
		for _, a := range someAddresses() {
			finds(t, []api.Rule{p}, a)
		}
		for _, q := range someRules() {
			for _, a := range someAddresses() {
				finds(t, []api.Rule{p, q}, a)
			}
			for _, r := range someRules() {
				for _, a := range few {
					finds(t, []api.Rule{p, q, r}, a)
				}
			}
		}
	}
}

// P8.2: each length, with an address that is held, and one that a bit keeps out.
func TestFindOfEachLength(t *testing.T) {
	const at = 0x5A3CC3A5
	var up, down []api.Rule
	for n := range 33 {
		r := to(uint32(uint64(at)>>(32-n)<<(32-n)), n, n)
		up = append(up, r)
		down = slices.Insert(down, 0, r)
	}
	for _, l := range [][]api.Rule{up, down} {
		if v, ok := Next(l, at); v != 32 || !ok {
			t.Errorf("Next of the address itself: %d, %t; want 32", v, ok)
		}
		for i := range 32 {
			a := uint32(at) ^ 1<<(31-i)
			if v, ok := Next(l, a); v != i || !ok {
				t.Errorf("Next with bit %d turned: %d, %t; want %d", i, v, ok, i)
			}
			if v, ok := Next(l, a^(1<<(31-i)-1)); v != i || !ok {
				t.Errorf("Next with bit %d and all behind it turned: %d, %t; want %d", i, v, ok, i)
			}
		}
	}
}

// P8.2: of many tables, in order and out of it, at the ends of each rule and next to them.
func TestFindAndNextOfManyTables(t *testing.T) {
	draw := drawn(8)
	for range 300 {
		l := ordered(draw, 30, 20)
		mixed := slices.Clone(l)
		for i := range mixed {
			j := draw(i + 1)
			mixed[i], mixed[j] = mixed[j], mixed[i]
		}
		mays(t, mixed, 20)
		for _, r := range l {
			high := r.At | uint32(1<<(32-r.Len)-1)
			for _, a := range []uint32{r.At, r.At - 1, high, high + 1} {
				finds(t, l, a)
				finds(t, mixed, a)
			}
		}
	}
}

// P8.3: of a table that may be just one rule is the longest that holds an address, and Find tells it, or none holds it.
func TestOneRuleIsTheLongest(t *testing.T) {
	draw := drawn(3)
	for range 400 {
		l := ordered(draw, 40, 9)
		if e := May(l, 9); e != api.OK {
			t.Fatalf("May(%v, 9): %d", l, e)
		}
		for _, a := range append(someAddresses(), uint32(draw(1<<31))<<1, uint32(draw(16))<<28|uint32(draw(4))<<14) {
			longest, many := api.Rule{}, 0
			for _, r := range l {
				if !holdsTold(r, a) {
					continue
				}
				if many == 0 || r.Len > longest.Len {
					longest, many = r, 1
				} else if r.Len == longest.Len {
					many++
				}
			}
			if many > 1 {
				t.Errorf("May(%v, 9) is 0, but %d rules are the longest that hold %08X", l, many, a)
			}
			if r, ok := Find(l, a); r != longest || ok != (many == 1) {
				t.Errorf("Find(%v, %08X): %v, %t; want %v", l, a, r, ok, longest)
			}
		}
	}
}

// P8.3: of all tables of rules of few bits: whenever two rules of one length hold an address, May refuses the table.
func TestTwoLongestRulesMayNotBe(t *testing.T) {
	var all []api.Rule
	for n := range 4 {
		for i := range uint32(1) << n {
			all = append(all, drop(i<<(31-n)<<1, n))
		}
	}
	for _, p := range all {
		for _, q := range all {
			for _, r := range all {
				l := []api.Rule{p, q, r}
				for a := range uint32(8) {
					held := map[int]int{}
					for _, x := range l {
						if holdsTold(x, a<<29) {
							held[x.Len]++
						}
					}
					for n, many := range held {
						if many > 1 && May(l, 1) == api.OK {
							t.Errorf("May(%v, 1) is 0, but %d rules of length %d hold %08X", l, many, n, a<<29)
						}
					}
				}
			}
		}
	}
}

// P8.2: a long list is scanned to its end.
func TestFindOfLongLists(t *testing.T) {
	var l []api.Rule
	for i := range 50000 {
		l = append(l, to(uint32(i)<<16, 16, i))
	}
	for _, i := range []int{0, 1, 255, 256, 4095, 4096, 4097, 49999} {
		if v, ok := Next(l, uint32(i)<<16|0x0102); v != i || !ok {
			t.Errorf("Next of rule %d: %d, %t", i, v, ok)
		}
	}
	if r, ok := Find(l, 50000<<16); r != (api.Rule{}) || ok {
		t.Errorf("Find of what none holds: %v, %t", r, ok)
	}
}

// R7: what is handed in is not changed, also behind its end, and what is told does not see what becomes of it.
func TestNothingIsChangedOrShared(t *testing.T) {
	whole := []api.Rule{to(0x0A000000, 8, 1), to(0x0A010000, 16, 2), drop(0x0A010200, 24), to(0, 0, 3), {At: 7, Len: 99, Act: 98, Next: 97}}
	for n := range len(whole) + 1 {
		l := slices.Clone(whole)
		May(l[:n], 4)
		r, ok := Find(l[:n], 0x0A010303)
		Next(l[:n], 0x0A010303)
		if !slices.Equal(l, whole) {
			t.Errorf("the calls with %d rules changed them: %v", n, l)
		}
		want, wantOk := findTold(l[:n], 0x0A010303)
		for i := range l {
			l[i] = api.Rule{At: 1, Len: 1, Act: 1, Next: 1}
		}
		if r != want || ok != wantOk {
			t.Errorf("Find with %d rules: %v, %t, after they were written over; want %v, %t", n, r, ok, want, wantOk)
		}
	}
}

// R6: what is told hangs on the arguments alone, not on what was asked ahead.
func TestCallsTellTheSameAgain(t *testing.T) {
	good := []api.Rule{to(0x0A000000, 8, 1), to(0x0A010000, 16, 2)}
	for range 3 {
		for _, l := range [][]api.Rule{good, nil, {good[1], good[0]}, {good[0], good[0]}, {{}}, good[:1], good} {
			mays(t, l, 3)
			mays(t, l, 2)
			for _, a := range []uint32{0x0A010203, 0, 0x0A020000, 0xFFFFFFFF} {
				finds(t, l, a)
			}
		}
	}
}
