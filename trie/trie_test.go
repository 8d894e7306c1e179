package trie

import (
	"cmp"
	"fmt"
	"math"
	"math/bits"
	"slices"
	"sync"
	"testing"

	"theseus/api"
	"theseus/table"
)

// to is a rule that sends on to a node.
func to(at uint32, n, next int) api.Rule {
	return api.Rule{At: at, Len: n, Act: api.AcNext, Next: next}
}

// drop is a rule that sends nowhere.
func drop(at uint32, n int) api.Rule {
	return api.Rule{At: at, Len: n, Act: api.AcDrop}
}

// deliver is another one that sends nowhere.
func deliver(at uint32, n int) api.Rule {
	return api.Rule{At: at, Len: n, Act: api.AcDeliver}
}

// firstBits are the first n bits of an address as a text, which stands for a prefix.
func firstBits(a uint32, n int) string {
	return fmt.Sprintf("%032b", a)[:n]
}

// bothTold is the longest prefix that holds two.
func bothTold(p, q string) string {
	n := 0
	for n < len(p) && n < len(q) && p[n] == q[n] {
		n++
	}
	return p[:n]
}

// forksTold are the forks that the document says a trie of a table has, each once.
func forksTold(l []api.Rule) map[string]bool {
	forks := map[string]bool{}
	for i, r := range l {
		own := firstBits(r.At, r.Len)
		forks[own] = true
		for _, s := range l[:i] {
			forks[bothTold(own, firstBits(s.At, s.Len))] = true
		}
	}
	return forks
}

// depthTold is how many of these hold an address.
func depthTold(forks map[string]bool, a uint32) int {
	depth := 0
	for n := range 33 {
		if forks[firstBits(a, n)] {
			depth++
		}
	}
	return depth
}

// findTold is what the document says that Find tells.
func findTold(l []api.Rule, a uint32) (api.Rule, bool) {
	var longest api.Rule
	found := false
	for _, r := range l {
		if uint64(r.At)>>(32-r.Len) == uint64(a)>>(32-r.Len) && (!found || r.Len > longest.Len) {
			longest, found = r, true
		}
	}
	return longest, found
}

// inOrder are rules in the document's order.
func inOrder(l []api.Rule) []api.Rule {
	l = slices.Clone(l)
	slices.SortFunc(l, func(p, q api.Rule) int { return cmp.Or(cmp.Compare(p.At, q.At), cmp.Compare(p.Len, q.Len)) })
	return l
}

// aboutEnds are the addresses at the ends of the forks, and next to them.
func aboutEnds(forks map[string]bool) []uint32 {
	all := []uint32{0, 1, 0x7FFFFFFF, 0x80000000, 0xFFFFFFFE, 0xFFFFFFFF}
	for fork := range forks {
		low := uint32(0)
		for i, bit := range fork {
			low |= uint32(bit-'0') << (31 - i)
		}
		high := low | uint32(uint64(1)<<(32-len(fork))-1)
		all = append(all, low-1, low, low+1, high-1, high, high+1, low/2+high/2)
	}
	slices.Sort(all)
	return slices.Compact(all)
}

// looks tells of a trie of a table, handed to Build in this order, that is not as the document says, of these addresses and
// those at the ends of its forks.
func looks(t *testing.T, l []api.Rule, addresses ...uint32) {
	t.Helper()
	x := Build(l)
	if x == nil {
		t.Fatalf("Build(%.300v): nil", l)
	}
	forks := forksTold(l)
	if size := x.Size(); size != len(forks) {
		t.Errorf("Build(%.300v).Size(): %d; want %d", l, size, len(forks))
	}
	if size := x.Size(); len(l) > 0 && size > 2*len(l)-1 || len(l) == 0 && size != 0 {
		t.Errorf("Build(%.300v).Size(): %d of %d rules", l, size, len(l))
	}
	if rules := x.Rules(); !slices.Equal(rules, inOrder(l)) {
		t.Errorf("Build(%.300v).Rules(): %.300v", l, rules)
	}
	for _, a := range append(aboutEnds(forks), addresses...) {
		want, wantOk := findTold(l, a)
		if r, ok := x.Find(a); r != want || ok != wantOk {
			t.Errorf("Build(%.300v).Find(%08X): %v, %t; want %v, %t", l, a, r, ok, want, wantOk)
		}
		if r, ok := table.Find(l, a); r != want || ok != wantOk {
			t.Errorf("table.Find(%.300v, %08X): %v, %t; want %v, %t", l, a, r, ok, want, wantOk)
		}
		if depth, want := x.Depth(a), depthTold(forks, a); depth != want {
			t.Errorf("Build(%.300v).Depth(%08X): %d; want %d", l, a, depth, want)
		}
	}
}

// drawn makes numbers that look like no order at all, the same ones of each beginning.
func drawn(beginning uint64) func(below int) int {
	state := beginning
	return func(below int) int {
		state = state*6364136223846793005 + 1442695040888963407
		return int(state>>33) % below
	}
}

// mixed are rules in another order.
func mixed(draw func(below int) int, l []api.Rule) []api.Rule {
	l = slices.Clone(l)
	for i := range l {
		j := draw(i + 1)
		l[i], l[j] = l[j], l[i]
	}
	return l
}

// someTable is a table that may be, of up to so many rules, out of order: of few unlike bits, so that many of them hold one
// address, or of any.
func someTable(draw func(below int) int, size int, few bool) []api.Rule {
	var l []api.Rule
	for range draw(size + 1) {
		n := draw(33)
		bits := draw(1 << 31)
		if few {
			bits = draw(16)<<28 | draw(4)<<14 | draw(4)
		}
		at := uint32(uint64(uint32(bits)) >> (32 - n) << (32 - n))
		r := api.Rule{At: at, Len: n, Act: 1 + draw(3)}
		if r.Act == api.AcNext {
			r.Next = draw(256)
		}
		l = append(l, r)
	}
	l = inOrder(l)
	l = slices.CompactFunc(l, func(p, q api.Rule) bool { return p.At == q.At && p.Len == q.Len })
	return mixed(draw, l)
}

// allOrders calls f of rules in each order there is.
func allOrders(l []api.Rule, f func(l []api.Rule)) {
	if len(l) == 0 {
		f(nil)
		return
	}
	for i := range l {
		allOrders(slices.Delete(slices.Clone(l), i, i+1), func(rest []api.Rule) { f(append(rest, l[i])) })
	}
}

// P11.1, P11.2: tries that are known, the document's among them.
func TestTriesThatAreKnown(t *testing.T) {
	type depths map[uint32]int
	for _, x := range []struct {
		l      []api.Rule
		size   int
		depths depths
	}{
		{[]api.Rule{to(0x0A000000, 9, 1), to(0x0A800000, 9, 2)}, 3, depths{0x0A000000: 2, 0x0A7FFFFF: 2, 0x0A800000: 2, 0x0AFFFFFF: 2, 0x0B000000: 0, 0x09FFFFFF: 0, 0: 0}},
		{nil, 0, depths{0: 0, 0xFFFFFFFF: 0}},
		{[]api.Rule{}, 0, depths{0: 0, 0xFFFFFFFF: 0}},
		{[]api.Rule{drop(0, 0)}, 1, depths{0: 1, 0x0A010203: 1, 0xFFFFFFFF: 1}},
		{[]api.Rule{drop(0, 32)}, 1, depths{0: 1, 1: 0, 0xFFFFFFFF: 0}},
		{[]api.Rule{drop(0xFFFFFFFF, 32)}, 1, depths{0: 0, 0xFFFFFFFE: 0, 0xFFFFFFFF: 1}},
		{[]api.Rule{drop(0, 32), drop(0xFFFFFFFF, 32)}, 3, depths{0: 2, 1: 1, 0x80000000: 1, 0xFFFFFFFF: 2}}, // of two that begin otherwise that of no bits
		{[]api.Rule{drop(0, 1), drop(0x80000000, 1)}, 3, depths{0: 2, 0x80000000: 2}},
		{[]api.Rule{drop(2, 32), drop(3, 32)}, 3, depths{2: 2, 3: 2, 1: 0, 4: 0}},                                                           // the fork of both has 31 bits
		{[]api.Rule{drop(0x0A000000, 8), drop(0x0A010000, 16)}, 2, depths{0x0A010203: 2, 0x0A020203: 1, 0x0B000000: 0}},                     // one holds the other: it is the longest of both
		{[]api.Rule{drop(0x0A000000, 8), drop(0x0A000000, 16)}, 2, depths{0x0A000001: 2, 0x0A010203: 1}},                                    // of one address
		{[]api.Rule{drop(0, 0), drop(0, 1), drop(0x80000000, 1)}, 3, depths{0: 2, 0xFFFFFFFF: 2}},                                           // the fork of two is a third rule's prefix
		{[]api.Rule{drop(0, 2), drop(0x40000000, 2), drop(0x80000000, 2), drop(0xC0000000, 2)}, 7, depths{0: 3, 0x40000000: 3, 1 << 31: 3}}, // two forks, and one of both
		{[]api.Rule{drop(0, 2), drop(0x40000000, 2), drop(0x80000000, 2)}, 5, depths{0: 3, 0x40000000: 3, 0x80000000: 2, 0xC0000000: 1}},
		{[]api.Rule{drop(0x0A000000, 24), drop(0x0A000100, 24), drop(0x0A000200, 24)}, 5, depths{0x0A000000: 3, 0x0A000100: 3, 0x0A000200: 2, 0x0A000300: 1, 0x0A000400: 0}},
		{[]api.Rule{drop(0, 0), drop(0x0A000000, 9), drop(0x0A000000, 32), drop(0x0A800000, 9)}, 5, depths{0: 1, 0x0A000000: 4, 0x0A000001: 3, 0x0A800000: 3, 0xFFFFFFFF: 1}},
	} {
		allOrders(x.l, func(l []api.Rule) {
			trie := Build(l)
			if size := trie.Size(); size != x.size {
				t.Errorf("Build(%v).Size(): %d; want %d", l, size, x.size)
			}
			if rules := trie.Rules(); !slices.Equal(rules, x.l) {
				t.Errorf("Build(%v).Rules(): %v", l, rules)
			}
			for a, want := range x.depths {
				if depth := trie.Depth(a); depth != want {
					t.Errorf("Build(%v).Depth(%08X): %d; want %d", l, a, depth, want)
				}
			}
			looks(t, l)
		})
	}
}

// P11.2: rules that are known, of addresses that some of them hold, and that none does.
func TestFindTellsWhatIsKnown(t *testing.T) {
	l := []api.Rule{to(0x0A010000, 16, 0), drop(0x0A010200, 24), to(0x0A000000, 8, 7), deliver(0x0A010203, 32), to(0xC0000000, 2, 255), drop(0xC0A80000, 16)}
	x := Build(l)
	for _, y := range []struct {
		a    uint32
		want int // its place; -1, if there is none
	}{
		{0x0A010203, 3}, {0x0A010202, 1}, {0x0A010204, 1}, {0x0A010200, 1}, {0x0A0102FF, 1}, {0x0A010300, 0}, {0x0A0101FF, 0}, {0x0A010000, 0}, {0x0A01FFFF, 0},
		{0x0A00FFFF, 2}, {0x0A020000, 2}, {0x0A000000, 2}, {0x0AFFFFFF, 2}, {0x09FFFFFF, -1}, {0x0B000000, -1}, {0, -1}, {0x80000000, -1},
		{0xBFFFFFFF, -1}, {0xC0000000, 4}, {0xC0A7FFFF, 4}, {0xC0A80000, 5}, {0xC0A8FFFF, 5}, {0xC0A90000, 4}, {0xFFFFFFFF, 4},
	} {
		var want api.Rule
		if y.want >= 0 {
			want = l[y.want]
		}
		if r, ok := x.Find(y.a); r != want || ok != (y.want >= 0) {
			t.Errorf("Find(%08X): %v, %t; want that of place %d", y.a, r, ok, y.want)
		}
	}
	looks(t, l)
}

// P11.2: a fork that is of no rule holds addresses, but is none of what Find tells.
func TestFindOfForksWithoutRule(t *testing.T) {
	x := Build([]api.Rule{to(0x0A000000, 10, 1), to(0x0AC00000, 10, 2)})
	for _, a := range []uint32{0x0A400000, 0x0A7FFFFF, 0x0A800000, 0x0ABFFFFF} {
		if r, ok := x.Find(a); r != (api.Rule{}) || ok {
			t.Errorf("Find(%08X): %v, %t; want none", a, r, ok)
		}
		if depth := x.Depth(a); depth != 1 {
			t.Errorf("Depth(%08X): %d; want 1", a, depth)
		}
	}
	held := Build([]api.Rule{to(0, 0, 3), to(0x0A000000, 10, 1), to(0x0AC00000, 10, 2)})
	if r, ok := held.Find(0x0A400000); r != to(0, 0, 3) || !ok || held.Depth(0x0A400000) != 2 {
		t.Errorf("Find(0A400000): %v, %t, depth %d; want the shorter rule, 2", r, ok, held.Depth(0x0A400000))
	}
}

// P11.1: of each two of many rules alone, in both orders, of each length, and that part at each bit.
func TestTriesOfEachTwoRules(t *testing.T) {
	const at = 0x5A3CC3A5
	prefixed := func(a uint32, n int) api.Rule { return to(uint32(uint64(a)>>(32-n)<<(32-n)), n, n) }
	for n := range 33 {
		looks(t, []api.Rule{prefixed(at, n)})
		for m := range 33 {
			if m != n {
				looks(t, []api.Rule{prefixed(at, n), prefixed(at, m)})
			}
			for part := range min(m, n) { // both have the bit at which they part
				other := uint32(at) ^ 1<<(31-part)
				looks(t, []api.Rule{prefixed(at, n), prefixed(other, m)}, at, other, at^1, other^1)
			}
		}
	}
}

// P11.1, P11.2, P11.3: each table of up to four prefixes of up to three bits more than some that all have.
func TestAllTriesOfFewBits(t *testing.T) {
	draw := drawn(11)
	for _, ahead := range []int{0, 13, 29} {
		common := uint32(0xA5A5A5A5) &^ (^uint32(0) >> ahead)
		var all []api.Rule
		for n := range 4 {
			for i := range uint32(1) << n {
				all = append(all, to(common|i<<(31-n)<<1>>ahead, ahead+n, len(all)))
			}
		}
		addresses := []uint32{0, 0xFFFFFFFF, common - 1}
		for i := range uint32(8) {
			addresses = append(addresses, common|i<<29>>ahead)
		}
		for chosen := range 1 << len(all) {
			if bits.OnesCount(uint(chosen)) > 4 {
				continue
			}
			var l []api.Rule
			for i, r := range all {
				if chosen>>i&1 == 1 {
					l = append(l, r)
				}
			}
			few(t, mixed(draw, l), addresses)
		}
	}
}

// few is looks, of these addresses alone.
func few(t *testing.T, l []api.Rule, addresses []uint32) {
	t.Helper()
	x, forks := Build(l), forksTold(l)
	if size := x.Size(); size != len(forks) || size > max(2*len(l)-1, 0) {
		t.Errorf("Build(%v).Size(): %d; want %d", l, size, len(forks))
	}
	if rules := x.Rules(); !slices.Equal(rules, inOrder(l)) {
		t.Errorf("Build(%v).Rules(): %v", l, rules)
	}
	for _, a := range addresses {
		want, wantOk := findTold(l, a)
		if r, ok := x.Find(a); r != want || ok != wantOk {
			t.Errorf("Build(%v).Find(%08X): %v, %t; want %v, %t", l, a, r, ok, want, wantOk)
		}
		if depth, want := x.Depth(a), depthTold(forks, a); depth != want {
			t.Errorf("Build(%v).Depth(%08X): %d; want %d", l, a, depth, want)
		}
	}
}

// P11.1: what a trie is does not hang on the order of the rules: all orders of five.
func TestAllOrdersOfSomeRules(t *testing.T) {
	for _, l := range [][]api.Rule{
		{to(0x0A000000, 8, 1), drop(0x0A010000, 16), deliver(0x0A010200, 24), to(0x0A010203, 32, 2), to(0, 0, 3)},
		{to(0x0A000000, 9, 1), to(0x0A800000, 9, 2), to(0x0A000000, 8, 3), to(0x0B000000, 8, 4), drop(0x0A400000, 10)},
		{drop(0, 32), drop(1, 32), drop(2, 32), drop(3, 32), deliver(0xFFFFFFFF, 32)},
		{drop(0x20000000, 3), drop(0, 3), drop(0x60000000, 3), drop(0xE0000000, 3), drop(0x40000000, 2)},
	} {
		allOrders(l, func(l []api.Rule) { looks(t, l) })
	}
}

// P11.1, P11.2, P11.3: many tables, out of order.
func TestManyTries(t *testing.T) {
	draw := drawn(5)
	for i := range 400 {
		l := someTable(draw, 40, i%2 == 0)
		looks(t, l, uint32(draw(1<<31))<<1, uint32(draw(16))<<28|uint32(draw(4))<<14)
	}
}

// P11.1, P11.2: rules of one address and each length, from above and from below.
func TestTrieOfEachLength(t *testing.T) {
	const at = 0x5A3CC3A5
	var l []api.Rule
	for n := range 33 {
		l = append(l, to(uint32(uint64(at)>>(32-n)<<(32-n)), n, n))
	}
	for range 2 {
		x := Build(l)
		if x.Size() != 33 || x.Depth(at) != 33 {
			t.Errorf("Size %d, Depth %d; want 33", x.Size(), x.Depth(at))
		}
		for i := range 32 {
			a := uint32(at) ^ 1<<(31-i)
			if r, ok := x.Find(a); r.Next != i || !ok || x.Depth(a) != i+1 {
				t.Errorf("with bit %d turned: %v, %t, depth %d", i, r, ok, x.Depth(a))
			}
		}
		looks(t, l)
		slices.Reverse(l)
	}
}

// P11.3: the most forks that there may be: of rules of which none holds another, twice as many as these, less one.
func TestMostForks(t *testing.T) {
	for _, many := range []int{1, 2, 3, 5, 64, 1000, api.MaxRules} {
		var l []api.Rule
		for i := range many {
			l = append(l, to(bits.Reverse32(uint32(i)), 32, i%256))
		}
		x := Build(l)
		if x.Size() != 2*many-1 {
			t.Errorf("Size of %d rules: %d; want %d", many, x.Size(), 2*many-1)
		}
		if rules := x.Rules(); !slices.Equal(rules, inOrder(l)) {
			t.Errorf("Rules of %d are not those in order", many)
		}
		for _, r := range l {
			if got, ok := x.Find(r.At); got != r || !ok {
				t.Errorf("Find(%08X) of %d: %v, %t; want %v", r.At, many, got, ok, r)
			}
			if got, ok := x.Find(r.At ^ 1); ok {
				t.Errorf("Find(%08X) of %d: %v; want none", r.At^1, many, got)
			}
		}
	}
}

// P11.2: a large table finds what the scan of it does.
func TestFindOfALargeTableIsTheScans(t *testing.T) {
	draw := drawn(7)
	var l []api.Rule
	for i := range api.MaxRules {
		n := 8 + i%25
		l = append(l, to(uint32(uint64(uint32(i)*2654435761)>>(32-n)<<(32-n)), n, i%256))
	}
	l = inOrder(l)
	l = slices.CompactFunc(l, func(p, q api.Rule) bool { return p.At == q.At && p.Len == q.Len })
	if e := table.May(l, 256); e != api.OK {
		t.Fatalf("May: %d", e)
	}
	x := Build(mixed(draw, l))
	if !slices.Equal(x.Rules(), l) {
		t.Error("Rules are not those in order")
	}
	for i := range 4000 {
		a := l[draw(len(l))].At ^ uint32(draw(1<<(i%24)))
		want, wantOk := table.Find(l, a)
		if r, ok := x.Find(a); r != want || ok != wantOk {
			t.Errorf("Find(%08X): %v, %t; want %v, %t", a, r, ok, want, wantOk)
		}
	}
}

// P11.1: what becomes of packets is told as it was handed in, whatever the rule is.
func TestRulesAreToldWhole(t *testing.T) {
	l := []api.Rule{to(0, 0, 0), deliver(0, 1), drop(0x80000000, 1), to(0x80000000, 2, 255), to(0xC0000000, 2, 1)}
	x := Build(l)
	if !slices.Equal(x.Rules(), l) {
		t.Errorf("Rules: %v; want %v", x.Rules(), l)
	}
	for a, want := range map[uint32]api.Rule{0: l[1], 0x7FFFFFFF: l[1], 0x80000000: l[3], 0xBFFFFFFF: l[3], 0xFFFFFFFF: l[4]} {
		if r, ok := x.Find(a); r != want || !ok {
			t.Errorf("Find(%08X): %v, %t; want %v", a, r, ok, want)
		}
	}
}

// R1: of rules that may not be, too, a trie is told, and each call of it ends.
func TestRulesThatMayNotBe(t *testing.T) {
	var odd []api.Rule
	for _, n := range []int{math.MinInt, math.MinInt32, -1 << 32, -33, -32, -1, 0, 1, 8, 16, 31, 32, 33, 34, 63, 64, 65, 255, 1 << 32, 1<<32 + 8, math.MaxInt32, math.MaxInt} {
		for _, at := range []uint32{0, 1, 0x0A010203, 0x80000000, 0xFFFFFFFF} {
			for _, act := range []int{math.MinInt, 0, 1, 4} {
				odd = append(odd, api.Rule{At: at, Len: n, Act: act, Next: -n})
			}
		}
	}
	calls := func(l []api.Rule) {
		t.Helper()
		x := Build(l)
		if x == nil {
			t.Errorf("Build(%.300v): nil", l)
			return
		}
		x.Size()
		x.Rules()
		for _, a := range []uint32{0, 1, 0x0A010203, 0x0A0102FF, 0x7FFFFFFF, 0x80000000, 0xFFFFFFFF} {
			x.Depth(a)
			if r, ok := x.Find(a); !ok && r != (api.Rule{}) {
				t.Errorf("Build(%.300v).Find(%08X): %v, but false", l, a, r)
			}
		}
	}
	good := []api.Rule{to(0x0A000000, 8, 1), drop(0x0A010000, 16), to(0x80000000, 1, 2)}
	for i, r := range odd {
		calls([]api.Rule{r})
		calls([]api.Rule{r, r})
		calls(append(slices.Clone(good), r))
		calls(append([]api.Rule{r}, good...))
		for _, other := range odd[i/2:] {
			calls([]api.Rule{r, other})
		}
	}
	draw := drawn(2)
	for range 20 {
		calls(mixed(draw, append(odd, good...)))
	}
	for _, r := range []api.Rule{{}, to(0, 32, 1), {At: 0xFFFFFFFF, Len: math.MaxInt}} {
		calls(slices.Repeat([]api.Rule{r}, 100000))
	}
}

// R1: a Trie that a program made without Build is one of no rules.
func TestTrieThatWasNotBuilt(t *testing.T) {
	var x Trie
	if r, ok := x.Find(0x0A010203); r != (api.Rule{}) || ok {
		t.Errorf("Find: %v, %t", r, ok)
	}
	if len(x.Rules()) != 0 || x.Size() != 0 || x.Depth(0) != 0 || x.Depth(0xFFFFFFFF) != 0 {
		t.Errorf("Rules %v, Size %d, Depth %d, %d", x.Rules(), x.Size(), x.Depth(0), x.Depth(0xFFFFFFFF))
	}
}

// R7: the rules that are handed in are not changed, also behind their end, and neither side sees what becomes of the other's.
func TestNothingIsChangedOrShared(t *testing.T) {
	whole := []api.Rule{to(0x0B000000, 8, 2), to(0x0A000000, 8, 1), drop(0x0A010000, 16), to(0, 0, 3), {At: 7, Len: 99, Act: 98, Next: 97}}
	for n := range len(whole) {
		l := slices.Clone(whole)
		x := Build(l[:n])
		rules, again := x.Rules(), x.Rules()
		if !slices.Equal(l, whole) {
			t.Errorf("the calls with %d rules changed them: %v", n, l)
		}
		for i := range l {
			l[i] = api.Rule{At: 1, Len: 1, Act: 1, Next: 1}
		}
		for i := range rules {
			rules[i] = api.Rule{At: 2, Len: 2, Act: 2, Next: 2}
		}
		_ = append(rules[:0], api.Rule{}, api.Rule{}, api.Rule{})
		want := inOrder(whole[:n])
		if !slices.Equal(again, want) || !slices.Equal(x.Rules(), want) {
			t.Errorf("Rules of %d, written over: %v, %v; want %v", n, again, x.Rules(), want)
		}
		for _, a := range []uint32{0, 1, 0x0A010203, 0x0A020203, 0x0B000000, 0x40000000, 0xFFFFFFFF} {
			wantRule, wantOk := findTold(whole[:n], a)
			if r, ok := x.Find(a); r != wantRule || ok != wantOk {
				t.Errorf("Find(%08X) of %d, written over: %v, %t; want %v", a, n, r, ok, wantRule)
			}
		}
	}
}

// R6: what a trie tells hangs on its rules alone, neither on what was asked ahead nor on other tries.
func TestCallsTellTheSameAgain(t *testing.T) {
	one := []api.Rule{to(0x0A000000, 9, 1), to(0x0A800000, 9, 2)}
	other := []api.Rule{to(0x0A000000, 9, 3), drop(0x0A010000, 16), to(0x0A000000, 8, 4)}
	x, y := Build(one), Build(other)
	copied := *x
	for range 3 {
		for _, z := range []struct {
			trie *Trie
			l    []api.Rule
		}{{x, one}, {y, other}, {&copied, one}, {Build(nil), nil}} {
			forks := forksTold(z.l)
			if z.trie.Size() != len(forks) || !slices.Equal(z.trie.Rules(), inOrder(z.l)) {
				t.Errorf("of %v: Size %d, Rules %v", z.l, z.trie.Size(), z.trie.Rules())
			}
			for _, a := range []uint32{0, 0x0A000000, 0x0A010203, 0x0A800000, 0x0B000000} {
				want, wantOk := findTold(z.l, a)
				if r, ok := z.trie.Find(a); r != want || ok != wantOk || z.trie.Depth(a) != depthTold(forks, a) {
					t.Errorf("of %v: Find(%08X): %v, %t, Depth %d", z.l, a, r, ok, z.trie.Depth(a))
				}
			}
		}
	}
}

// R6: many may ask one trie at a time.
func TestManyAskAtATime(t *testing.T) {
	l := someTable(drawn(9), 60, true)
	x, forks := Build(l), forksTold(l)
	var all sync.WaitGroup
	for range 8 {
		all.Go(func() {
			for a := range uint32(200) {
				want, wantOk := findTold(l, a<<24)
				if r, ok := x.Find(a << 24); r != want || ok != wantOk || x.Depth(a<<24) != depthTold(forks, a<<24) || x.Size() != len(forks) {
					t.Errorf("Find(%08X): %v, %t; want %v", a<<24, r, ok, want)
				}
			}
		})
	}
	all.Wait()
}
