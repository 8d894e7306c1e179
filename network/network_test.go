package network

import (
	"math"
	"slices"
	"testing"

	"theseus/api"
)

// to is a rule that sends on to a node.
func to(at uint32, n, next int) api.Rule {
	return api.Rule{At: at, Len: n, Act: api.AcNext, Next: next}
}

// drop is a rule that sends nowhere.
func drop(at uint32, n int) api.Rule {
	return api.Rule{At: at, Len: n, Act: api.AcDrop}
}

// deliver is another one that sends nowhere.
func deliver(at uint32, n int) api.Rule {
	return api.Rule{At: at, Len: n, Act: api.AcDeliver}
}

// sends is a network of which each node sends all to the one of its place here, or has no rule, if that is none.
func sends(nexts ...int) api.Net {
	var n api.Net
	for _, next := range nexts {
		var rules []api.Rule
		if next != none {
			rules = []api.Rule{to(0, 0, next)}
		}
		n.Nodes = append(n.Nodes, rules)
	}
	return n
}

// none is where a node sends that has no rule.
const none = math.MinInt

// copied is a network that shares nothing with the one that it is like.
func copied(n api.Net) api.Net {
	var own api.Net
	for _, rules := range n.Nodes {
		own.Nodes = append(own.Nodes, slices.Clone(rules))
	}
	return own
}

// alike tells whether two networks have the same rules.
func alike(m, n api.Net) bool {
	return slices.EqualFunc(m.Nodes, n.Nodes, func(p, q []api.Rule) bool { return slices.Equal(p, q) })
}

// holdsTold is what the document says that a rule holds.
func holdsTold(r api.Rule, a uint32) bool {
	bits := min(max(r.Len, 0), 32)
	return uint64(r.At)>>(32-bits) == uint64(a)>>(32-bits)
}

// stepTold is what the document says that Step tells.
func stepTold(n api.Net, a uint32, v int) (int, bool) {
	if v < 0 || v >= len(n.Nodes) {
		return 0, false
	}
	best := -1
	for i, r := range n.Nodes[v] {
		if holdsTold(r, a) && (best < 0 || r.Len > n.Nodes[v][best].Len) {
			best = i
		}
	}
	if best < 0 || n.Nodes[v][best].Act != 1 {
		return 0, false
	}
	return n.Nodes[v][best].Next, true
}

// stepsTold is where so many steps lead, however many.
func stepsTold(n api.Net, a uint32, v, k int) (int, bool) {
	for range k {
		next, sent := stepTold(n, a, v)
		if !sent {
			return 0, false
		}
		v = next
	}
	return v, true
}

// walkTold is what the document says that Walk tells.
func walkTold(n api.Net, a uint32, v, k int) (int, bool) {
	if k < 0 || k > 256 || v < 0 || v >= len(n.Nodes) {
		return 0, false
	}
	return stepsTold(n, a, v, k)
}

// loopTold is what the document says that Loop tells: of each node it tries each count of steps.
func loopTold(n api.Net, a uint32) ([]int, bool) {
	for v := range n.Nodes {
		for k := 1; k <= len(n.Nodes); k++ {
			if back, sent := stepsTold(n, a, v, k); !sent || back != v {
				continue
			}
			loop := []int{v}
			for i := 1; i < k; i++ {
				w, _ := stepsTold(n, a, v, i)
				loop = append(loop, w)
			}
			return loop, true
		}
	}
	return nil, false
}

// steps tells of a Step that is not as the document says.
func steps(t *testing.T, n api.Net, a uint32, v int) {
	t.Helper()
	want, wantOk := stepTold(n, a, v)
	if w, ok := Step(n, a, v); w != want || ok != wantOk {
		t.Errorf("Step(%.300v, %08X, %d): %d, %t; want %d, %t", n, a, v, w, ok, want, wantOk)
	}
}

// walks tells of a Walk that is not as the document says.
func walks(t *testing.T, n api.Net, a uint32, v, k int) {
	t.Helper()
	want, wantOk := walkTold(n, a, v, k)
	if w, ok := Walk(n, a, v, k); w != want || ok != wantOk {
		t.Errorf("Walk(%.300v, %08X, %d, %d): %d, %t; want %d, %t", n, a, v, k, w, ok, want, wantOk)
	}
}

// loops tells of a Loop that is not as the document says.
func loops(t *testing.T, n api.Net, a uint32) {
	t.Helper()
	want, wantOk := loopTold(n, a)
	if loop, ok := Loop(n, a); !slices.Equal(loop, want) || ok != wantOk {
		t.Errorf("Loop(%.300v, %08X): %v, %t; want %v, %t", n, a, loop, ok, want, wantOk)
	}
}

// drawn makes numbers that look like no order at all, the same ones of each beginning.
func drawn(beginning uint64) func(below int) int {
	state := beginning
	return func(below int) int {
		state = state*6364136223846793005 + 1442695040888963407
		return int(state>>33) % below
	}
}

// mixed is a network of rules of few bits, some of which send to nodes that there are not, or may not be otherwise.
func mixed(draw func(below int) int, nodes int) api.Net {
	var n api.Net
	for range nodes {
		var rules []api.Rule
		for range draw(4) {
			r := api.Rule{At: uint32(draw(8)) << 29, Len: draw(5) - 1, Act: 1 + draw(9)/7, Next: draw(nodes)}
			if draw(15) == 0 {
				r.Next = []int{-1, nodes, math.MaxInt, math.MinInt}[draw(4)]
			}
			rules = append(rules, r)
		}
		n.Nodes = append(n.Nodes, rules)
	}
	return n
}

// odd are numbers of nodes, or of steps, that mostly may not be.
func odd() []int {
	return []int{math.MinInt, math.MinInt + 1, -1 << 32, -257, -256, -2, -1, 257, 258, 1 << 31, 1 << 32, 1<<32 + 1, math.MaxInt - 1, math.MaxInt}
}

// P9.1: Size counts the rules of all nodes, also of those that may not be.
func TestSizeCountsAllRules(t *testing.T) {
	row := func(k int) []api.Rule { return make([]api.Rule, k) }
	for _, x := range []struct {
		nodes [][]api.Rule
		want  int
	}{
		{nil, 0},
		{[][]api.Rule{}, 0},
		{[][]api.Rule{nil}, 0},
		{[][]api.Rule{nil, {}, nil}, 0},
		{[][]api.Rule{row(1)}, 1},
		{[][]api.Rule{row(3), nil, row(4)}, 7},
		{[][]api.Rule{nil, row(5)}, 5},
		{[][]api.Rule{row(4096)}, 4096},
		{[][]api.Rule{row(4096), row(4097), row(1)}, 8194},
		{slices.Repeat([][]api.Rule{row(3)}, 1000), 3000},
	} {
		if size := Size(api.Net{Nodes: x.nodes}); size != x.want {
			t.Errorf("Size of %d nodes: %d; want %d", len(x.nodes), size, x.want)
		}
	}
}

// rising is a table of so many rules that may be.
func rising(k int) []api.Rule {
	rules := make([]api.Rule, k)
	for i := range rules {
		rules[i] = drop(uint32(i)<<8, 24)
	}
	return rules
}

// P9.1: networks that may be, up to the bounds.
func TestMayOfNetworksThatMayBe(t *testing.T) {
	last := sends(slices.Repeat([]int{none}, 256)...)
	last.Nodes[255] = []api.Rule{to(0, 0, 255), to(0, 1, 0)}
	for i, n := range []api.Net{
		{},
		{Nodes: [][]api.Rule{}},
		{Nodes: [][]api.Rule{nil}},
		{Nodes: [][]api.Rule{nil, {}}},
		sends(0),
		sends(1, 0),
		sends(2, 1, 1),
		last,
		{Nodes: make([][]api.Rule, 256)},
		{Nodes: [][]api.Rule{rising(4096)}},
		{Nodes: [][]api.Rule{rising(4000), nil, rising(96)}},
		{Nodes: slices.Repeat([][]api.Rule{rising(16)}, 256)},
		{Nodes: [][]api.Rule{{deliver(0, 0)}, {drop(0, 0), drop(0, 1), to(0x80000000, 1, 1)}}},
	} {
		if e := May(n); e != api.OK {
			t.Errorf("%d: May: %d; want 0", i, e)
		}
	}
}

// P9.1: too many nodes, or rules of all nodes, are told ahead of what is wrong with a rule.
func TestMayOfTooMany(t *testing.T) {
	for i, n := range []api.Net{
		{Nodes: make([][]api.Rule, 257)},
		{Nodes: make([][]api.Rule, 100000)},
		{Nodes: [][]api.Rule{rising(4097)}},
		{Nodes: [][]api.Rule{rising(4096), nil, rising(1)}},
		{Nodes: [][]api.Rule{rising(1), rising(4096)}},
		{Nodes: append(slices.Repeat([][]api.Rule{rising(16)}, 255), rising(17))},
		{Nodes: slices.Repeat([][]api.Rule{rising(17)}, 256)},
		{Nodes: slices.Repeat([][]api.Rule{rising(100)}, 300)},
		{Nodes: [][]api.Rule{make([]api.Rule, 4097)}}, // and each rule may not be
		{Nodes: append([][]api.Rule{{{Len: 99}}}, make([][]api.Rule, 256)...)},
		{Nodes: [][]api.Rule{{to(0, 0, 9)}, rising(4096)}},
	} {
		if e := May(n); e != api.ErrMany {
			t.Errorf("%d: May: %d; want %d", i, e, api.ErrMany)
		}
	}
}

// P9.1 and R3: node by node the first one's error, whatever comes behind it.
func TestMayTellsTheFirstError(t *testing.T) {
	size, host, act := []api.Rule{{Len: 33, Act: 3}}, []api.Rule{{At: 1, Len: 8, Act: 3}}, []api.Rule{{Act: 4}}
	node, order := []api.Rule{to(0, 0, 5)}, []api.Rule{drop(0, 1), drop(0, 0)}
	good := []api.Rule{to(0, 0, 4), drop(0, 1)}
	wrong := []struct {
		rules []api.Rule
		want  api.Errno
	}{{size, api.ErrSize}, {host, api.ErrHost}, {act, api.ErrAct}, {node, api.ErrNode}, {order, api.ErrOrder}}
	for _, x := range wrong {
		for place := range 5 {
			n := api.Net{Nodes: slices.Repeat([][]api.Rule{good}, 5)}
			n.Nodes[place] = x.rules
			if e := May(n); e != x.want {
				t.Errorf("May of %v at place %d: %d; want %d", x.rules, place, e, x.want)
			}
			for _, y := range wrong {
				for behind := place + 1; behind < 5; behind++ {
					both := copied(n)
					both.Nodes[behind] = y.rules
					if e := May(both); e != x.want {
						t.Errorf("May of %v at place %d, %v at %d: %d; want %d", x.rules, place, y.rules, behind, e, x.want)
					}
				}
			}
		}
	}
}

// P9.1: each network is asked by its own count of nodes.
func TestMayOfEachCountOfNodes(t *testing.T) {
	for _, count := range []int{1, 2, 3, 255, 256} {
		for _, at := range []int{0, count / 2, count - 1} {
			n := api.Net{Nodes: make([][]api.Rule, count)}
			n.Nodes[at] = []api.Rule{to(0, 0, count-1)}
			if e := May(n); e != api.OK {
				t.Errorf("May of %d nodes, one that sends to the last: %d; want 0", count, e)
			}
			for _, next := range []int{count, count + 1, -1, math.MaxInt, math.MinInt} {
				n.Nodes[at] = []api.Rule{to(0, 0, next)}
				if e := May(n); e != api.ErrNode {
					t.Errorf("May of %d nodes, one that sends to %d: %d; want %d", count, next, e, api.ErrNode)
				}
			}
		}
	}
}

// P9.2: Step by the longest rule of the node alone.
func TestStepTellsWhatIsKnown(t *testing.T) {
	n := api.Net{Nodes: [][]api.Rule{
		{to(0, 0, 2), to(0x0A000000, 8, 1), drop(0x0A010000, 16)},
		nil,
		{deliver(0, 0), to(0x0A000000, 8, 0)},
		{to(0, 1, 77), to(0x80000000, 1, -5)},
	}}
	for _, x := range []struct {
		a    uint32
		v    int
		want int
		ok   bool
	}{
		{0, 0, 2, true}, {0x0A000000, 0, 1, true}, {0x0A010203, 0, 0, false}, {0x0B000000, 0, 2, true},
		{0, 1, 0, false}, {0x0A000000, 1, 0, false},
		{0, 2, 0, false}, {0x0A010203, 2, 0, true},
		{0, 3, 77, true}, {0xFFFFFFFF, 3, -5, true}, // also to a node that there is not
		{0, 4, 0, false}, {0, -1, 0, false}, {0, 77, 0, false}, {0, math.MaxInt, 0, false}, {0, math.MinInt, 0, false},
	} {
		if w, ok := Step(n, x.a, x.v); w != x.want || ok != x.ok {
			t.Errorf("Step(n, %08X, %d): %d, %t; want %d, %t", x.a, x.v, w, ok, x.want, x.ok)
		}
	}
	for _, v := range append(odd(), 0, 1) {
		if w, ok := Step(api.Net{}, 0, v); w != 0 || ok {
			t.Errorf("Step of no nodes, %d: %d, %t; want 0, false", v, w, ok)
		}
	}
}

// P9.2: no steps, some, and as many as there may be; those below 0 and above it tell false.
func TestWalkTellsWhatIsKnown(t *testing.T) {
	n := sends(1, 2, none, 3, 0, 77, -1)
	for _, x := range []struct {
		v, k int
		want int
		ok   bool
	}{
		{0, 0, 0, true}, {0, 1, 1, true}, {0, 2, 2, true}, {0, 3, 0, false}, {0, 256, 0, false},
		{1, 0, 1, true}, {1, 1, 2, true}, {1, 2, 0, false},
		{2, 0, 2, true}, {2, 1, 0, false}, // nothing is sent in no steps
		{3, 0, 3, true}, {3, 1, 3, true}, {3, 255, 3, true}, {3, 256, 3, true}, {3, 257, 0, false}, {3, -1, 0, false},
		{4, 1, 0, true}, {4, 2, 1, true}, {4, 3, 2, true}, {4, 4, 0, false},
		{5, 0, 5, true}, {5, 1, 77, true}, {5, 2, 0, false}, // a step may lead to a node that there is not
		{6, 0, 6, true}, {6, 1, -1, true}, {6, 2, 0, false},
		{7, 0, 0, false}, {7, 1, 0, false}, {77, 0, 0, false}, {-1, 0, 0, false}, {-1, 1, 0, false},
	} {
		if w, ok := Walk(n, 5, x.v, x.k); w != x.want || ok != x.ok {
			t.Errorf("Walk(n, 5, %d, %d): %d, %t; want %d, %t", x.v, x.k, w, ok, x.want, x.ok)
		}
	}
	for _, k := range odd() {
		for _, v := range []int{0, 3, 4} {
			if w, ok := Walk(n, 5, v, k); w != 0 || ok {
				t.Errorf("Walk(n, 5, %d, %d): %d, %t; want 0, false", v, k, w, ok)
			}
		}
	}
	for _, v := range odd() {
		for _, k := range []int{0, 1, 256} {
			if w, ok := Walk(n, 5, v, k); w != 0 || ok {
				t.Errorf("Walk(n, 5, %d, %d): %d, %t; want 0, false", v, k, w, ok)
			}
		}
	}
	if w, ok := Walk(api.Net{}, 0, 0, 0); w != 0 || ok {
		t.Errorf("Walk of no nodes: %d, %t; want 0, false", w, ok)
	}
}

// P9.2: the bound is MaxNodes steps, not as many as there are nodes.
func TestWalkOfAsManyStepsAsMayBe(t *testing.T) {
	var nexts []int
	for v := range 1000 {
		nexts = append(nexts, v+1)
	}
	n := sends(nexts...)
	for k := -3; k < 300; k++ {
		for _, v := range []int{0, 1, 500, 743, 744, 745, 998, 999} {
			walks(t, n, 7, v, k)
		}
	}
	if w, ok := Walk(n, 7, 744, 256); w != 1000 || !ok {
		t.Errorf("Walk of 256 steps, to behind the last: %d, %t; want 1000, true", w, ok)
	}
	two := sends(1, 0)
	for k := range 256 {
		if w, ok := Walk(two, 0, 0, k); w != k%2 || !ok {
			t.Errorf("Walk of two that go round, %d steps: %d, %t; want %d", k, w, ok, k%2)
		}
	}
}

// P9.3: what is known, the document's example among it.
func TestLoopTellsWhatIsKnown(t *testing.T) {
	for _, x := range []struct {
		nexts []int
		want  []int
	}{
		{[]int{2, 1, 1}, []int{1}}, // the document's
		{nil, nil},
		{[]int{none}, nil},
		{[]int{0}, []int{0}},
		{[]int{1}, nil},
		{[]int{-1}, nil},
		{[]int{1, none}, nil},
		{[]int{1, 0}, []int{0, 1}},
		{[]int{1, 1}, []int{1}},
		{[]int{0, 0}, []int{0}},
		{[]int{1, 2, 0}, []int{0, 1, 2}},
		{[]int{2, 0, 1}, []int{0, 2, 1}},
		{[]int{1, 2, none}, nil},
		{[]int{1, 2, 3}, nil},
		{[]int{5, 1, none, 4, 3, 6, 5}, []int{1}},                      // the least node of all loops, not the first that is come to
		{[]int{5, 4, none, none, 1, 6, 5}, []int{1, 4}},                // a later walk's
		{[]int{3, 2, 1, 4, 3}, []int{1, 2}},                            // ahead of one that is come to earlier
		{[]int{4, 3, none, 5, 5, 4}, []int{4, 5}},                      // two ways into one loop
		{[]int{3, 3, 3, 4, 5, 3}, []int{3, 4, 5}},                      // come to at its least node
		{[]int{5, 3, 3, 4, 5, 3}, []int{3, 4, 5}},                      // and at another one
		{[]int{1, 2, 3, 4, 4}, []int{4}},                               // the last one goes round by itself
		{[]int{none, none, 9, 3}, []int{3}},                            // behind nodes that send nowhere
		{[]int{6, 5, 4, 3, 2, 1, 0}, []int{0, 6}},                      // several loops
		{[]int{none, 5, 4, 3, 2, 1, none}, []int{1, 5}},                // several, but not of the first one
		{[]int{1, 2, 3, 4, 5, 6, 7, 8, 2}, []int{2, 3, 4, 5, 6, 7, 8}}, // a tail ahead of it
		{[]int{8, 0, 1, 2, 3, 4, 5, 6, 7}, []int{0, 8, 7, 6, 5, 4, 3, 2, 1}},
	} {
		loop, ok := Loop(sends(x.nexts...), 0x0A010203)
		if !slices.Equal(loop, x.want) || ok != (x.want != nil) || !ok && loop != nil {
			t.Errorf("Loop where nodes send to %v: %v, %t; want %v", x.nexts, loop, ok, x.want)
		}
	}
}

// P9.3: each address goes its own way.
func TestLoopOfAnAddress(t *testing.T) {
	n := api.Net{Nodes: [][]api.Rule{
		{to(0, 0, 1), drop(0x0A000000, 8), to(0x0A010000, 16, 2)},
		{to(0, 0, 0), deliver(0xC0000000, 2), to(0x0A000000, 8, 1)},
		{to(0x0A010000, 16, 0)},
	}}
	for _, x := range []struct {
		a    uint32
		want []int
	}{
		{0, []int{0, 1}}, {0x09FFFFFF, []int{0, 1}}, {0x0A000000, []int{1}}, {0x0A00FFFF, []int{1}}, {0x0A010000, []int{0, 2}},
		{0x0A01FFFF, []int{0, 2}}, {0x0A020000, []int{1}}, {0x0B000000, []int{0, 1}}, {0xBFFFFFFF, []int{0, 1}}, {0xC0000000, nil}, {0xFFFFFFFF, nil},
	} {
		if loop, ok := Loop(n, x.a); !slices.Equal(loop, x.want) || ok != (x.want != nil) {
			t.Errorf("Loop(n, %08X): %v, %t; want %v", x.a, loop, ok, x.want)
		}
	}
}

// P9.2 and P9.3: of all ways that up to five nodes may send, nodes that there are not among them.
func TestAllSmallNetworks(t *testing.T) {
	for count := range 6 {
		choices := []int{none, -1, count}
		if count == 5 {
			choices = []int{none}
		}
		for v := range count {
			choices = append(choices, v)
		}
		nexts := make([]int, count)
		var each func(place int)
		each = func(place int) {
			if place < count {
				for _, next := range choices {
					nexts[place] = next
					each(place + 1)
				}
				return
			}
			n := sends(nexts...)
			loops(t, n, 1)
			for v := -1; v <= count; v++ {
				for k := -1; k <= count+1; k++ {
					walks(t, n, 1, v, k)
				}
			}
		}
		each(0)
	}
}

// P9.2 and P9.3: of many networks of rules that may not all be.
func TestManyNetworks(t *testing.T) {
	draw := drawn(9)
	for range 3000 {
		n := mixed(draw, 1+draw(12))
		a := uint32(draw(8))<<29 | uint32(draw(2))
		loops(t, n, a)
		for v := -1; v <= len(n.Nodes); v++ {
			steps(t, n, a, v)
			walks(t, n, a, v, draw(20)-1)
		}
	}
}

// P9.3 and P9.4: loops of every length, up to above MaxNodes, in and behind one another.
func TestLoopsOfEachLength(t *testing.T) {
	for _, length := range []int{1, 2, 3, 100, 255, 256, 257, 600} {
		for _, tail := range []int{0, 1, 5, 256} {
			nexts := make([]int, tail+length)
			for v := range nexts {
				nexts[v] = v + 1
			}
			nexts[tail+length-1] = tail
			loop, ok := Loop(sends(nexts...), 3)
			if len(loop) != length || !ok || loop[0] != tail || loop[length-1] != tail+length-1 {
				t.Errorf("Loop of %d nodes behind %d: %d nodes, %t", length, tail, len(loop), ok)
			}
		}
	}
}

// P9.4: the nodes of a loop are unlike, each is the Step of the one ahead, the first one of the last one.
func TestLoopsClose(t *testing.T) {
	draw := drawn(4)
	closed := 0
	for range 2000 {
		n := mixed(draw, 1+draw(30))
		for place := range uint32(8) {
			a := place << 29
			loop, ok := Loop(n, a)
			if ok != (len(loop) > 0) {
				t.Fatalf("Loop(%v, %08X): %v, %t", n, a, loop, ok)
			}
			for i, v := range loop {
				next := loop[(i+1)%len(loop)]
				if w, sent := Step(n, a, v); w != next || !sent {
					t.Errorf("Loop(%v, %08X): %v, but from %d the Step is %d, %t", n, a, loop, v, w, sent)
				}
				if slices.Index(loop, v) != i || v < loop[0] {
					t.Errorf("Loop(%v, %08X): %v, with %d twice, or behind a greater one", n, a, loop, v)
				}
			}
			if ok {
				closed++
				if back, sent := Walk(n, a, loop[0], len(loop)); back != loop[0] || !sent {
					t.Errorf("Loop(%v, %08X): %v, but the Walk leads to %d, %t", n, a, loop, back, sent)
				}
			}
		}
	}
	if closed < 1000 {
		t.Errorf("only %d of the networks have a loop", closed)
	}
}

// P9.3 and R1: of very many nodes, in one long row, one great loop, or many small ones.
func TestLoopOfVeryManyNodes(t *testing.T) {
	const count = 200000
	row, back, pairs, star := make([]int, count), make([]int, count), make([]int, count), make([]int, count)
	for v := range count {
		row[v], back[v], pairs[v], star[v] = v+1, (v+count-1)%count, v^1, count-1
	}
	if loop, ok := Loop(sends(row...), 1); ok || loop != nil {
		t.Errorf("Loop of a row: %d nodes, %t", len(loop), ok)
	}
	row[count-1] = count - 1
	if loop, ok := Loop(sends(row...), 1); !slices.Equal(loop, []int{count - 1}) || !ok {
		t.Errorf("Loop of a row with a loop at its end: %d nodes, %t", len(loop), ok)
	}
	if loop, ok := Loop(sends(back...), 1); len(loop) != count || !ok || loop[0] != 0 || loop[1] != count-1 {
		t.Errorf("Loop of one great one: %d nodes, %t", len(loop), ok)
	}
	if loop, ok := Loop(sends(pairs...), 1); !slices.Equal(loop, []int{0, 1}) || !ok {
		t.Errorf("Loop of pairs: %d nodes, %t", len(loop), ok)
	}
	if loop, ok := Loop(sends(star...), 1); !slices.Equal(loop, []int{count - 1}) || !ok {
		t.Errorf("Loop of a star: %d nodes, %t", len(loop), ok)
	}
	row[count-1] = none
	slices.Reverse(row)
	for v, next := range row {
		if next != none {
			row[v] = count - 1 - next
		}
	}
	if loop, ok := Loop(sends(row...), 1); ok || loop != nil {
		t.Errorf("Loop of a row the other way: %d nodes, %t", len(loop), ok)
	}
}

// R7: what is handed in is not changed; what is told sees nothing of what becomes of it, nor the other way round.
func TestNothingIsChangedOrShared(t *testing.T) {
	n := api.Net{Nodes: [][]api.Rule{{to(0, 0, 1), drop(0x0A000000, 8)}, {to(0, 0, 2)}, {to(0, 0, 1)}, {{Len: 99, Act: 98, Next: 97}}, nil}}
	was := copied(n)
	May(n)
	Size(n)
	Step(n, 5, 0)
	Walk(n, 5, 0, 9)
	loop, ok := Loop(n, 5)
	again, _ := Loop(n, 5)
	if !alike(n, was) {
		t.Errorf("the calls changed the network: %v", n)
	}
	if !slices.Equal(loop, []int{1, 2}) || !ok {
		t.Fatalf("Loop: %v, %t", loop, ok)
	}
	loop[0], loop[1] = 7, 8
	if third, _ := Loop(n, 5); !alike(n, was) || !slices.Equal(again, []int{1, 2}) || !slices.Equal(third, []int{1, 2}) {
		t.Errorf("a loop that was written over is seen: %v, %v, %v", n, again, third)
	}
	n.Nodes[1][0], n.Nodes[2] = drop(0, 0), nil
	if !slices.Equal(again, []int{1, 2}) {
		t.Errorf("a network that was written over is seen: %v", again)
	}
}

// R6: what is told hangs on the arguments alone, not on what was asked ahead.
func TestCallsTellTheSameAgain(t *testing.T) {
	few := []api.Net{sends(2, 1, 1), {}, sends(1, 0), sends(1, 2, none), {Nodes: make([][]api.Rule, 300)}, sends(9), sends(0)}
	want := []api.Errno{api.OK, api.OK, api.OK, api.OK, api.ErrMany, api.ErrNode, api.OK}
	for range 3 {
		for i, n := range few {
			if e := May(n); e != want[i] {
				t.Errorf("May(%.200v): %d; want %d", n, e, want[i])
			}
			loops(t, n, 3)
			for v := -1; v < 4; v++ {
				steps(t, n, 3, v)
				walks(t, n, 3, v, 2)
			}
		}
	}
}
