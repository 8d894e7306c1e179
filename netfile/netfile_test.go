package netfile

import (
	"bytes"
	"encoding/binary"
	"hash/crc32"
	"math"
	"slices"
	"testing"

	"theseus/api"
)

var known = crc32.MakeTable(crc32.Castagnoli)

// to is a rule that sends on to a node.
func to(at uint32, n, next int) api.Rule {
	return api.Rule{At: at, Len: n, Act: api.AcNext, Next: next}
}

// drop is a rule that sends nowhere.
func drop(at uint32, n int) api.Rule {
	return api.Rule{At: at, Len: n, Act: api.AcDrop}
}

// deliver is another one that sends nowhere.
func deliver(at uint32, n int) api.Rule {
	return api.Rule{At: at, Len: n, Act: api.AcDeliver}
}

// rising is a table of so many rules that may be.
func rising(k int) []api.Rule {
	rules := make([]api.Rule, k)
	for i := range rules {
		rules[i] = drop(uint32(i)<<8, 24)
	}
	return rules
}

// net is a network of these nodes.
func net(nodes ...[]api.Rule) api.Net { return api.Net{Nodes: nodes} }

// copied is a network that shares nothing with the one that it is like.
func copied(n api.Net) api.Net {
	var own api.Net
	for _, rules := range n.Nodes {
		own.Nodes = append(own.Nodes, slices.Clone(rules))
	}
	return own
}

// alike tells whether two networks have the same rules.
func alike(m, n api.Net) bool {
	return slices.EqualFunc(m.Nodes, n.Nodes, func(p, q []api.Rule) bool { return slices.Equal(p, q) })
}

// drawn makes numbers that look like no order at all, the same ones of each beginning.
func drawn(beginning uint64) func(below int) int {
	state := beginning
	return func(below int) int {
		state = state*6364136223846793005 + 1442695040888963407
		return int(state>>33) % below
	}
}

// ruleMayTold is what the document says that the May of a rule tells.
func ruleMayTold(r api.Rule, nodes int) api.Errno {
	if r.Len < 0 || r.Len > 32 {
		return api.ErrSize
	}
	if uint64(r.At)%(1<<(32-r.Len)) != 0 {
		return api.ErrHost
	}
	if r.Act < 1 || r.Act > 3 {
		return api.ErrAct
	}
	if r.Act == 1 && (r.Next < 0 || r.Next >= nodes) || r.Act != 1 && r.Next != 0 {
		return api.ErrNode
	}
	return api.OK
}

// mayTold is what the document says that the May of a network tells.
func mayTold(n api.Net) api.Errno {
	size := 0
	for _, rules := range n.Nodes {
		size += len(rules)
	}
	if len(n.Nodes) > 256 || size > 4096 {
		return api.ErrMany
	}
	for _, rules := range n.Nodes {
		for i, r := range rules {
			if e := ruleMayTold(r, len(n.Nodes)); e != api.OK {
				return e
			}
			if i > 0 && (r.At < rules[i-1].At || r.At == rules[i-1].At && r.Len <= rules[i-1].Len) {
				return api.ErrOrder
			}
		}
	}
	return api.OK
}

// groups are the bytes of a number in groups of seven bits.
func groups(n int) []byte {
	b := []byte{byte(n & 127)}
	for n >>= 7; n > 0; n >>= 7 {
		b = append(b, byte(n&127)|128)
	}
	slices.Reverse(b)
	return b
}

// section is a node's one, of these bytes.
func section(in []byte) []byte {
	return append(append([]byte{84}, groups(len(in))...), in...)
}

// ruleTold are a rule's bytes.
func ruleTold(r api.Rule) []byte {
	b := binary.BigEndian.AppendUint32(nil, r.At)
	return append(b, byte(r.Len), byte(r.Act), byte(r.Next>>8), byte(r.Next))
}

// framed are bytes between the magic and the sum.
func framed(b []byte) []byte {
	f := append([]byte("FIB1"), b...)
	return binary.BigEndian.AppendUint32(f, crc32.Checksum(f, known))
}

// between are the bytes between magic and sum that the document says of a network, also of one that may not be.
func between(n api.Net) []byte {
	b := groups(len(n.Nodes))
	for _, rules := range n.Nodes {
		in := groups(len(rules))
		for _, r := range rules {
			in = append(in, ruleTold(r)...)
		}
		b = append(b, section(in)...)
	}
	return b
}

// groupTold is what the document says that group.Take tells.
func groupTold(b []byte) (n, used int, e api.Errno) {
	if len(b) > 0 && b[0] == 128 || len(b) >= 4 && min(b[0], b[1], b[2], b[3]) >= 128 {
		return 0, 0, api.ErrForm
	}
	end := slices.IndexFunc(b, func(c byte) bool { return c < 128 })
	if end < 0 {
		return 0, 0, api.ErrShort
	}
	for _, c := range b[:end+1] {
		n = n*128 + int(c)%128
	}
	return n, end + 1, api.OK
}

// rulesTold are the rules that a section's bytes tell, as the document says.
func rulesTold(b []byte) ([]api.Rule, api.Errno) {
	count, used, e := groupTold(b)
	if e != api.OK {
		return nil, e
	}
	if count > 4096 {
		return nil, api.ErrMany
	}
	var rules []api.Rule
	for b = b[used:]; len(rules) < count; b = b[8:] {
		if len(b) < 8 {
			return nil, api.ErrShort
		}
		rules = append(rules, api.Rule{At: binary.BigEndian.Uint32(b), Len: int(b[4]), Act: int(b[5]), Next: int(b[6])<<8 | int(b[7])})
	}
	if len(b) > 0 {
		return nil, api.ErrMore
	}
	return rules, api.OK
}

// nodesTold are the nodes that the bytes between magic and sum tell, as the document says; they need not be of a network that may be.
func nodesTold(b []byte) ([][]api.Rule, api.Errno) {
	count, used, e := groupTold(b)
	if e != api.OK {
		return nil, e
	}
	if count > 256 {
		return nil, api.ErrMany
	}
	var nodes [][]api.Rule
	for b = b[used:]; len(nodes) < count; {
		if len(b) == 0 {
			return nil, api.ErrShort
		}
		if b[0] != 84 {
			return nil, api.ErrForm
		}
		size, used, e := groupTold(b[1:])
		if e != api.OK {
			return nil, e
		}
		b = b[1+used:]
		if len(b) < size {
			return nil, api.ErrShort
		}
		rules, e := rulesTold(b[:size])
		if e != api.OK {
			return nil, e
		}
		nodes, b = append(nodes, rules), b[size:]
	}
	if len(b) > 0 {
		return nil, api.ErrMore
	}
	return nodes, api.OK
}

// takeTold is what the document says that Take tells.
func takeTold(b []byte) (api.Net, api.Errno) {
	if len(b) < 8 {
		return api.Net{}, api.ErrShort
	}
	if string(b[:4]) != "FIB1" {
		return api.Net{}, api.ErrMagic
	}
	ahead := b[:len(b)-4]
	if binary.BigEndian.Uint32(b[len(ahead):]) != crc32.Checksum(ahead, known) {
		return api.Net{}, api.ErrSum
	}
	nodes, e := nodesTold(ahead[4:])
	if e == api.OK {
		e = mayTold(net(nodes...))
	}
	if e != api.OK {
		return api.Net{}, e
	}
	return net(nodes...), api.OK
}

// puts tells of a Put that is not as the document says.
func puts(t *testing.T, n api.Net) {
	t.Helper()
	b, e := Put(n)
	if want := mayTold(n); want != api.OK {
		if e != want || len(b) != 0 {
			t.Errorf("Put(%.300v): %.100x, %d; want error %d", n, b, e, want)
		}
		return
	}
	if want := framed(between(n)); e != api.OK || !bytes.Equal(b, want) {
		t.Errorf("Put(%.300v): %.100x, %d; want %.100x", n, b, e, want)
	}
}

// takes tells of a Take that is not as the document says, or that Put does not put to these bytes; and what Take tells.
func takes(t *testing.T, b []byte) api.Errno {
	t.Helper()
	want, wantE := takeTold(b)
	n, e := Take(b)
	if e != wantE || !alike(n, want) || e != api.OK && n.Nodes != nil {
		t.Errorf("Take(%.100x): %.300v, %d; want %.300v, %d", b, n, e, want, wantE)
	}
	if e == api.OK {
		if back, e := Put(n); e != api.OK || !bytes.Equal(back, b) {
			t.Errorf("Put of what Take(%.100x) tells: %.100x, %d", b, back, e)
		}
	}
	return e
}

// refused tells of bytes in a frame that their Take is not of that error, or tells a network beside it.
func refused(t *testing.T, b []byte, want api.Errno) {
	t.Helper()
	if n, e := Take(framed(b)); e != want || n.Nodes != nil {
		t.Errorf("Take of %.100x in a frame: %.300v, %d; want error %d", b, n, e, want)
	}
}

// row are bytes one behind the other.
func row(parts ...[]byte) []byte { return slices.Concat(parts...) }

// good are networks that may be, up to the bounds, and where a count of bytes grows.
func good() []api.Net {
	last := net(make([][]api.Rule, 256)...)
	last.Nodes[255] = []api.Rule{to(0, 0, 255), to(0, 1, 0)}
	nets := []api.Net{
		{},
		net(nil),
		net(nil, nil, nil),
		net([]api.Rule{to(0, 0, 0)}),
		net([]api.Rule{to(0x0A000000, 8, 3), to(0x0A010000, 16, 2)}, nil, []api.Rule{deliver(0, 0)}, []api.Rule{drop(0xFFFFFFFF, 32)}),
		net([]api.Rule{deliver(0, 0), drop(0, 1), to(0, 32, 1), to(0x01020304, 32, 0), to(0xFFFFFFFE, 31, 1)}, []api.Rule{drop(0x80000000, 1)}),
		last,
		net(rising(4096)),
		net(rising(4000), nil, rising(96)),
		net(slices.Repeat([][]api.Rule{rising(16)}, 256)...),
	}
	for _, nodes := range []int{127, 128, 129, 255, 256} {
		nets = append(nets, net(make([][]api.Rule, nodes)...))
	}
	for _, rules := range []int{15, 16, 127, 128, 2047, 2048} {
		nets = append(nets, net(rising(rules)), net(nil, rising(rules), rising(1)))
	}
	return nets
}

// mixed is a network that may be of few nodes and rules.
func mixed(draw func(below int) int) api.Net {
	n := net(make([][]api.Rule, draw(6))...)
	for v := range n.Nodes {
		at := uint64(0)
		for range draw(5) {
			bits := draw(33)
			at = (at>>(32-bits) + uint64(draw(3)) + 1) << (32 - bits)
			if at > math.MaxUint32 {
				break
			}
			r := api.Rule{At: uint32(at), Len: bits, Act: 1 + draw(3)}
			if r.Act == api.AcNext {
				r.Next = draw(len(n.Nodes))
			}
			n.Nodes[v] = append(n.Nodes[v], r)
		}
	}
	return n
}

// badRules are tables that may not be in any network, or not in one of so few nodes, and their errors.
func badRules() []struct {
	rules []api.Rule
	want  api.Errno
} {
	return []struct {
		rules []api.Rule
		want  api.Errno
	}{
		{[]api.Rule{{Len: 33, Act: 3}}, api.ErrSize},
		{[]api.Rule{{At: 1, Len: 8, Act: 3}}, api.ErrHost},
		{[]api.Rule{{Act: 4}}, api.ErrAct},
		{[]api.Rule{{}}, api.ErrAct},
		{[]api.Rule{to(0, 0, 200)}, api.ErrNode},
		{[]api.Rule{{Act: 2, Next: 1}}, api.ErrNode},
		{[]api.Rule{drop(0, 1), drop(0, 0)}, api.ErrOrder},
		{[]api.Rule{drop(0, 1), drop(0, 1)}, api.ErrOrder},
	}
}

// P10.1: networks whose bytes are known, written out.
func TestPutTellsBytes(t *testing.T) {
	for _, x := range []struct {
		n    api.Net
		want string
	}{
		{net(nil), "FIB1\x01\x54\x01\x00\xE7\x39\xFC\xFC"},
		{net([]api.Rule{}), "FIB1\x01\x54\x01\x00\xE7\x39\xFC\xFC"},
		{api.Net{}, string(framed([]byte{0}))},
		{api.Net{Nodes: [][]api.Rule{}}, string(framed([]byte{0}))},
		{net(nil, nil), string(framed([]byte{2, 84, 1, 0, 84, 1, 0}))},
		{
			net(nil, []api.Rule{deliver(0, 0), to(0x0A000000, 8, 1), drop(0x0A010203, 32)}, []api.Rule{to(0xFF000000, 8, 2)}),
			string(framed([]byte{3, 84, 1, 0, 84, 25, 3, 0, 0, 0, 0, 0, 2, 0, 0, 10, 0, 0, 0, 8, 1, 0, 1, 10, 1, 2, 3, 32, 3, 0, 0, 84, 9, 1, 255, 0, 0, 0, 8, 1, 0, 2})),
		},
	} {
		if b, e := Put(x.n); e != api.OK || string(b) != x.want {
			t.Errorf("Put(%v): %x, %d; want %x", x.n, b, e, x.want)
		}
	}
	b, e := Put(net(rising(4096)))
	if len(b) != 4+1+4+2+8*4096+4 || !bytes.HasPrefix(b, []byte{'F', 'I', 'B', '1', 1, 84, 0x82, 0x80, 0x02, 0xA0, 0}) || e != api.OK {
		t.Errorf("Put of a node of 4096 rules: %d bytes, %.12x, %d", len(b), b, e)
	}
	b, e = Put(net(make([][]api.Rule, 256)...))
	if len(b) != 4+2+3*256+4 || !bytes.HasPrefix(b, []byte{'F', 'I', 'B', '1', 0x82, 0, 84, 1, 0, 84}) || e != api.OK {
		t.Errorf("Put of 256 nodes: %d bytes, %.12x, %d", len(b), b, e)
	}
}

// P10.1: of many networks that may be, up to the bounds.
func TestPutOfNetworksThatMayBe(t *testing.T) {
	for i, n := range good() {
		if e := mayTold(n); e != api.OK {
			t.Fatalf("%d: a network that may not be: %d", i, e)
		}
		puts(t, n)
	}
	draw := drawn(10)
	for range 20000 {
		n := mixed(draw)
		if e := mayTold(n); e != api.OK {
			t.Fatalf("%v: a network that may not be: %d", n, e)
		}
		puts(t, n)
	}
}

// P10.1 and R2: of one that may not be its error, and no bytes.
func TestPutTellsMaysError(t *testing.T) {
	for _, x := range badRules() {
		for place := range 4 {
			n := net(slices.Repeat([][]api.Rule{{to(0, 0, 3), drop(0, 1)}}, 4)...)
			n.Nodes[place] = x.rules
			if b, e := Put(n); len(b) != 0 || e != x.want {
				t.Errorf("Put(%v): %x, %d; want error %d", n, b, e, x.want)
			}
			puts(t, n)
			for _, y := range badRules() {
				both := copied(n)
				both.Nodes[3] = y.rules
				puts(t, both)
			}
		}
	}
	for i, n := range []api.Net{
		net(make([][]api.Rule, 257)...),
		net(make([][]api.Rule, 1000)...),
		net(rising(4097)),
		net(rising(4096), nil, rising(1)),
		net(slices.Repeat([][]api.Rule{rising(17)}, 256)...),
		net(append([][]api.Rule{{{Len: 99}}}, make([][]api.Rule, 256)...)...),
		net(make([]api.Rule, 4097)),
	} {
		if b, e := Put(n); len(b) != 0 || e != api.ErrMany {
			t.Errorf("%d: Put: %d bytes, %d; want error %d", i, len(b), e, api.ErrMany)
		}
	}
	for _, odd := range []int{math.MinInt, -1 << 32, -256, -1, 256, 1 << 16, 1 << 32, math.MaxInt} {
		puts(t, net([]api.Rule{to(0, 0, odd)}))
		puts(t, net([]api.Rule{{Act: odd}}))
		puts(t, net([]api.Rule{{Act: 3, Len: odd}}))
		puts(t, net([]api.Rule{{Act: 3, Next: odd}}))
	}
}

// P10.2: bytes whose network is known, written out.
func TestTakeTellsNetworks(t *testing.T) {
	for _, x := range []struct {
		b    []byte
		want api.Net
	}{
		{[]byte{0}, api.Net{}},
		{[]byte{1, 84, 1, 0}, net(nil)},
		{[]byte{2, 84, 1, 0, 84, 1, 0}, net(nil, nil)},
		{[]byte{1, 84, 9, 1, 0, 0, 0, 0, 0, 1, 0, 0}, net([]api.Rule{to(0, 0, 0)})},
		{
			[]byte{2, 84, 17, 2, 10, 0, 0, 0, 8, 1, 0, 1, 10, 1, 0, 0, 16, 2, 0, 0, 84, 9, 1, 255, 255, 255, 255, 32, 3, 0, 0},
			net([]api.Rule{to(0x0A000000, 8, 1), deliver(0x0A010000, 16)}, []api.Rule{drop(0xFFFFFFFF, 32)}),
		},
	} {
		if n, e := Take(framed(x.b)); e != api.OK || !alike(n, x.want) {
			t.Errorf("Take of %x in a frame: %v, %d; want %v", x.b, n, e, x.want)
		}
	}
	if n, e := Take([]byte("FIB1\x01\x54\x01\x00\xE7\x39\xFC\xFC")); e != api.OK || !alike(n, net(nil)) {
		t.Errorf("Take of one node without rules: %v, %d", n, e)
	}
}

// P10.2: what is no frame of a network is told ahead of what is in it.
func TestTakeTellsTheFramesError(t *testing.T) {
	whole := framed([]byte{1, 84, 1, 0})
	for i := range whole {
		want := api.ErrSum
		if i < 8 {
			want = api.ErrShort
		}
		if e := takes(t, whole[:i]); e != want {
			t.Errorf("Take of the first %d bytes: %d; want %d", i, e, want)
		}
	}
	if n, e := Take(nil); n.Nodes != nil || e != api.ErrShort {
		t.Errorf("Take of nothing: %v, %d; want error %d", n, e, api.ErrShort)
	}
	for _, x := range []struct {
		b    string
		want api.Errno
	}{
		{"FIB1\x01\x54\x01\x00\xE7\x39\xFC\xFD", api.ErrSum},
		{"FIB1\x01\x54\x01\x01\xE7\x39\xFC\xFC", api.ErrSum},
		{"FIB2\x01\x54\x01\x00\xE7\x39\xFC\xFC", api.ErrMagic},
		{"CRT1\x01\x54\x01\x00\xE7\x39\xFC\xFC", api.ErrMagic},
		{"FIB1\x80\x00\x00\x00\x00", api.ErrSum},     // and a count in no form
		{"FIB1\x83\x00\x00\x00\x00\x00", api.ErrSum}, // and too many nodes
		{"FIB1\x01\x54\x01\x00\xE7\x39\xFC\xFC\x00", api.ErrSum},
		{"\x00FIB1\x01\x54\x01\x00\xE7\x39\xFC\xFC", api.ErrMagic},
		{"FIB2\x80", api.ErrShort},
		{"FIB1FIB", api.ErrShort},
		{"FIB1FIB1", api.ErrSum},
	} {
		if n, e := Take([]byte(x.b)); n.Nodes != nil || e != x.want {
			t.Errorf("Take(%x): %v, %d; want error %d", x.b, n, e, x.want)
		}
	}
	// A frame of a certificate's magic, whole in all else.
	other := append([]byte("CRT1"), 1, 84, 1, 0)
	other = binary.BigEndian.AppendUint32(other, crc32.Checksum(other, known))
	if n, e := Take(other); n.Nodes != nil || e != api.ErrMagic {
		t.Errorf("Take of another magic: %v, %d; want error %d", n, e, api.ErrMagic)
	}
	refused(t, nil, api.ErrShort) // a whole frame of nothing
}

// P10.2: how many nodes there are.
func TestTakeOfCountsOfNodes(t *testing.T) {
	refused(t, []byte{128}, api.ErrForm)
	refused(t, []byte{128, 1, 84, 1, 0}, api.ErrForm)
	refused(t, []byte{129}, api.ErrShort)
	refused(t, []byte{255, 255, 255}, api.ErrShort)
	refused(t, []byte{129, 128, 128, 128, 0}, api.ErrForm)
	for _, count := range []int{257, 258, 512, 1 << 14, 1 << 16, 1 << 21, 1<<28 - 1} {
		refused(t, groups(count), api.ErrMany)
		refused(t, append(groups(count), 84, 1, 0), api.ErrMany)
		refused(t, append(groups(count), 7), api.ErrMany)
		refused(t, append(groups(count), bytes.Repeat([]byte{84, 1, 0}, min(count, 600))...), api.ErrMany)
	}
	for _, count := range []int{0, 1, 2, 127, 128, 255, 256} {
		node := []byte{84, 1, 0}
		n, e := Take(framed(append(groups(count), bytes.Repeat(node, count)...)))
		if e != api.OK || !alike(n, net(make([][]api.Rule, count)...)) {
			t.Errorf("Take of %d nodes: %.300v, %d", count, n, e)
		}
		refused(t, append(groups(count), bytes.Repeat(node, count+1)...), api.ErrMore)
		if count > 0 {
			refused(t, append(groups(count), bytes.Repeat(node, count-1)...), api.ErrShort)
		}
	}
}

// P10.2: the section of each node.
func TestTakeOfSections(t *testing.T) {
	for _, ahead := range []int{0, 1, 2, 100} {
		for _, x := range []struct {
			b    []byte
			want api.Errno
		}{
			{nil, api.ErrShort},
			{[]byte{83, 1, 0}, api.ErrForm},
			{[]byte{85, 1, 0}, api.ErrForm},
			{[]byte{0x84, 1, 0}, api.ErrForm},
			{[]byte{83}, api.ErrForm},
			{[]byte{84}, api.ErrShort},
			{[]byte{84, 128, 1, 0}, api.ErrForm},
			{[]byte{84, 129}, api.ErrShort},
			{[]byte{84, 129, 129, 129, 129, 1}, api.ErrForm},
			{[]byte{84, 1}, api.ErrShort},
			{[]byte{84, 2, 0}, api.ErrShort},
			{[]byte{84, 2, 128}, api.ErrShort}, // ahead of the form of what would be in it
			{[]byte{84, 9, 1, 0, 0, 0, 0, 0, 3, 0}, api.ErrShort},
			{[]byte{84, 255, 255, 255, 127, 0}, api.ErrShort},
			{[]byte{84, 0}, api.ErrShort}, // no count in it
		} {
			b := row(groups(ahead+1), bytes.Repeat([]byte{84, 1, 0}, ahead), x.b)
			refused(t, b, x.want)
			takes(t, framed(b))
		}
	}
}

// P10.2: what is open: how many rules there are, these, and nothing behind.
func TestTakeOfRules(t *testing.T) {
	one := ruleTold(to(0, 0, 0))
	two := ruleTold(drop(0, 1))
	for _, x := range []struct {
		in   []byte
		want api.Errno
	}{
		{nil, api.ErrShort},
		{[]byte{128}, api.ErrForm},
		{[]byte{128, 0}, api.ErrForm},
		{[]byte{129}, api.ErrShort},
		{[]byte{129, 128, 128, 128}, api.ErrForm},
		{[]byte{1}, api.ErrShort},
		{row([]byte{1}, one[:7]), api.ErrShort},
		{row([]byte{1}, one), api.OK},
		{row([]byte{1}, one, []byte{0}), api.ErrMore},
		{row([]byte{1}, one, two), api.ErrMore},
		{row([]byte{0}, one), api.ErrMore},
		{[]byte{0, 0}, api.ErrMore},
		{row([]byte{2}, one, two), api.OK},
		{row([]byte{2}, one, two[:7]), api.ErrShort},
		{row([]byte{2}, one), api.ErrShort},
		{row([]byte{3}, one, two), api.ErrShort},
		{row(groups(4096), one), api.ErrShort},
		{groups(4096), api.ErrShort},
		{groups(4097), api.ErrMany},
		{row(groups(4097), one), api.ErrMany},
		{row(groups(4097), bytes.Repeat(one, 4097)), api.ErrMany},
		{row(groups(4097), bytes.Repeat(one, 4098)), api.ErrMany},
		{groups(1<<28 - 1), api.ErrMany},
		{row(groups(1<<28-1), one), api.ErrMany},
		{row(groups(4096), bytes.Repeat(one, 4096)), api.ErrOrder},
		{row(groups(4096), bytes.Repeat(one, 4096), []byte{1}), api.ErrMore},
		{row(groups(4096), bytes.Repeat(one, 4095), one[:7]), api.ErrShort},
		{between(net(rising(4096)))[5:], api.OK},
	} {
		for _, ahead := range []int{0, 1, 3} {
			nodes := row(groups(ahead+1), bytes.Repeat([]byte{84, 1, 0}, ahead), section(x.in))
			if e := takes(t, framed(nodes)); e != x.want {
				t.Errorf("Take of a section of %.60x behind %d others: %d; want %d", x.in, ahead, e, x.want)
			}
		}
	}
}

// P10.2: of a network that may not be its May's error, with all bytes right.
func TestTakeTellsMaysError(t *testing.T) {
	for _, x := range badRules() {
		for place := range 4 {
			n := net(slices.Repeat([][]api.Rule{{to(0, 0, 3), drop(0, 1)}}, 4)...)
			n.Nodes[place] = x.rules
			refused(t, between(n), x.want)
			for _, y := range badRules() {
				both := copied(n)
				both.Nodes[3] = y.rules
				refused(t, between(both), mayTold(both))
			}
		}
	}
	for _, n := range []api.Net{
		net(rising(4096), rising(1)),
		net(rising(4096), rising(4096), rising(4096)),
		net(slices.Repeat([][]api.Rule{rising(17)}, 256)...),
		net(make([]api.Rule, 4096), make([]api.Rule, 1)), // and each rule may not be
		net(make([]api.Rule, 1), make([]api.Rule, 4096)),
	} {
		refused(t, between(n), api.ErrMany)
	}
	refused(t, between(net([]api.Rule{{Len: 255, Act: 255, Next: 1<<16 - 1, At: 1<<32 - 1}})), api.ErrSize)
	refused(t, between(net([]api.Rule{to(0, 0, 1)})), api.ErrNode)
	refused(t, between(net([]api.Rule{to(0, 0, 256)})), api.ErrNode)
	refused(t, between(net([]api.Rule{{Act: 3, Next: 256}})), api.ErrNode)
}

// P10.2 and R3: what comes first from the left is told, whatever is wrong behind it; what may not be comes last of all.
func TestTakeTellsTheFirstError(t *testing.T) {
	order := section(row([]byte{2}, ruleTold(drop(0, 1)), ruleTold(drop(0, 0))))
	act := section(row([]byte{1}, make([]byte, 8)))
	plain := []byte{84, 1, 0}
	wrong := []struct {
		node []byte
		want api.Errno
	}{
		{[]byte{83, 1, 0}, api.ErrForm},
		{section([]byte{128}), api.ErrForm},
		{section([]byte{1}), api.ErrShort},
		{section(nil), api.ErrShort},
		{section([]byte{0, 0}), api.ErrMore},
		{section(groups(4097)), api.ErrMany},
	}
	for _, x := range wrong {
		for _, y := range wrong {
			refused(t, row([]byte{2}, x.node, y.node), x.want)
			refused(t, row([]byte{3}, plain, x.node, y.node), x.want)
			refused(t, row([]byte{3}, x.node, plain, y.node), x.want)
		}
		for _, may := range [][]byte{order, act} {
			refused(t, row([]byte{2}, may, x.node), x.want)
			refused(t, row([]byte{2}, x.node, may), x.want)
			refused(t, row([]byte{3}, may, plain, x.node, []byte{0}), x.want)
		}
		refused(t, row([]byte{1}, x.node, []byte{0}), x.want)            // ahead of what is left
		refused(t, row([]byte{0}, x.node), api.ErrMore)                  // it is left itself
		refused(t, row(groups(257), x.node), api.ErrMany)                // behind too many nodes
		refused(t, row([]byte{129, 128, 128, 128}, x.node), api.ErrForm) // behind a count in no form
		refused(t, row([]byte{1}, plain, x.node), api.ErrMore)           // and what is left may be wrong
		refused(t, row([]byte{9}, x.node), x.want)                       // ahead of nodes that are missing
	}
	refused(t, row([]byte{2}, order, act), api.ErrOrder)
	refused(t, row([]byte{2}, act, order), api.ErrAct)
	refused(t, row([]byte{2}, act), api.ErrShort)
	refused(t, row([]byte{1}, act, []byte{0}), api.ErrMore)
	refused(t, row([]byte{1}, order, plain), api.ErrMore)
	many := between(net(rising(4096), rising(1)))
	refused(t, many, api.ErrMany)
	refused(t, append(many, 0), api.ErrMore)
	refused(t, many[:len(many)-1], api.ErrShort)
}

// P10.2 and P10.3: all short rows of bytes that look like parts of networks.
func TestTakeOfShortRows(t *testing.T) {
	kinds := []byte{0, 1, 2, 3, 84, 128, 129}
	taken := 0
	var grow func(b []byte, left int)
	grow = func(b []byte, left int) {
		if takes(t, framed(b)) == api.OK {
			taken++
		}
		if left == 0 {
			return
		}
		for _, c := range kinds {
			grow(append(b, c), left-1)
		}
	}
	grow(make([]byte, 0, 6), 6)
	grow(append(make([]byte, 0, 20), 1, 84, 9, 1, 0, 0, 0), 5)
	// No node, one without rules, and one of a rule of address 0: four lengths, three actions.
	if taken != 2+4*3 {
		t.Errorf("%d rows are taken; want 14", taken)
	}
}

// P10.2 and P10.3: networks' bytes with any one byte between magic and sum another one, one more, or one less.
func TestTakeOfBytesNearby(t *testing.T) {
	for _, n := range []api.Net{
		{},
		net(nil),
		net([]api.Rule{to(0x0A000000, 8, 2), to(0x0A010000, 16, 1)}, nil, []api.Rule{deliver(0, 0)}),
	} {
		b := between(n)
		for i := range len(b) + 1 {
			if i < len(b) {
				takes(t, framed(slices.Delete(slices.Clone(b), i, i+1)))
			}
			for c := range 256 {
				takes(t, framed(slices.Insert(slices.Clone(b), i, byte(c))))
				if i < len(b) {
					odd := slices.Clone(b)
					odd[i] = byte(c)
					takes(t, framed(odd))
				}
			}
			takes(t, framed(b[:i]))
		}
	}
}

// P10.2 and P10.3: bytes of networks that may be, some of which are others.
func TestTakeOfMixedBytes(t *testing.T) {
	draw := drawn(20)
	seen := map[api.Errno]int{}
	for range 60000 {
		b := between(mixed(draw))
		for range draw(3) {
			switch i := draw(len(b)); draw(4) {
			case 0:
				b[i] = byte(draw(256))
			case 1:
				b[i] ^= 1 << draw(8)
			case 2:
				b = slices.Insert(b, i, byte(draw(3)))
			default:
				b = slices.Delete(b, i, i+1)
			}
			if len(b) == 0 {
				break
			}
		}
		seen[takes(t, framed(b))]++
	}
	for _, e := range []api.Errno{api.OK, api.ErrSize, api.ErrShort, api.ErrForm, api.ErrMore, api.ErrHost, api.ErrAct, api.ErrNode, api.ErrOrder} {
		if seen[e] == 0 {
			t.Errorf("error %d is never told", e)
		}
	}
}

// P10.3: what was put is taken.
func TestWhatWasPutIsTaken(t *testing.T) {
	nets := good()
	draw := drawn(30)
	for range 20000 {
		nets = append(nets, mixed(draw))
	}
	for _, n := range nets {
		b, e := Put(n)
		if e != api.OK {
			t.Fatalf("Put(%.300v): %d", n, e)
		}
		if back, e := Take(b); e != api.OK || !alike(back, n) {
			t.Errorf("Take(Put(%.300v)): %.300v, %d", n, back, e)
		}
	}
}

// P10.3: with any one bit turned it is not taken, also where the sum is.
func TestOneBitTurned(t *testing.T) {
	for _, n := range good() {
		b, e := Put(n)
		if e != api.OK {
			t.Fatalf("Put(%.300v): %d", n, e)
		}
		step := 1 + len(b)/150*7 // of long ones not all bits
		for i := 0; i < 8*len(b); i += step {
			b[i/8] ^= 1 << (i % 8)
			want := api.ErrSum
			if i < 32 {
				want = api.ErrMagic
			}
			if odd, e := Take(b); odd.Nodes != nil || e != want {
				t.Errorf("Take of %.300v with bit %d turned: %.300v, %d; want error %d", n, i, odd, e, want)
			}
			b[i/8] ^= 1 << (i % 8)
		}
	}
}

// R6: the same again, whatever was asked in between.
func TestTheSameAgain(t *testing.T) {
	for _, n := range good() {
		b, e := Put(n)
		_, _ = Put(net([]api.Rule{{Act: 9}}))
		_, _ = Take([]byte("FIB1"))
		again, eAgain := Put(n)
		if !bytes.Equal(b, again) || e != eAgain {
			t.Errorf("Put(%.300v) tells another time %.100x, %d", n, again, eAgain)
		}
		taken, _ := Take(b)
		_, _ = Take(framed([]byte{2, 84, 1, 0}))
		if back, e := Take(b); e != api.OK || !alike(taken, back) {
			t.Errorf("Take(%.100x) tells another time %.300v, %d", b, back, e)
		}
	}
}

// R7: nothing that is handed in is changed.
func TestNothingIsChanged(t *testing.T) {
	for _, n := range append(good(), net(make([]api.Rule, 3)), net(make([][]api.Rule, 257)...)) {
		kept := copied(n)
		_, _ = Put(n)
		if !alike(n, kept) {
			t.Errorf("Put changes %.300v", kept)
		}
		for _, in := range [][]byte{between(n), append(between(n), 0), between(n)[:len(between(n))/2]} {
			whole := framed(in)
			long := append(slices.Clone(whole), 1, 2, 3, 4, 5, 6, 7, 8)
			_, _ = Take(long[:len(whole)])
			if !bytes.Equal(long[:len(whole)], whole) || !bytes.Equal(long[len(whole):], []byte{1, 2, 3, 4, 5, 6, 7, 8}) {
				t.Errorf("Take changes %.100x", whole)
			}
		}
	}
}

// R7: what is told is its own, and no two lists of it share anything.
func TestNothingIsShared(t *testing.T) {
	n := net([]api.Rule{to(0, 0, 1), drop(0, 1)}, []api.Rule{deliver(0, 0)}, nil, []api.Rule{drop(0, 0), drop(0x40000000, 2), to(0x80000000, 1, 2)})
	kept := copied(n)
	b, _ := Put(n)
	first := slices.Clone(b)
	n.Nodes[0][0].At = 1 << 31
	n.Nodes[3] = nil
	if !bytes.Equal(b, first) {
		t.Error("what Put told sees what becomes of its network")
	}
	taken, _ := Take(b)
	other, _ := Take(b)
	clear(b)
	if !alike(taken, kept) {
		t.Errorf("what Take told sees what becomes of its bytes: %v", taken)
	}
	for v := range taken.Nodes {
		grown := append(taken.Nodes[v], drop(1, 32))
		clear(grown[:len(taken.Nodes[v])])
		for w := range taken.Nodes {
			if w > v && !slices.Equal(taken.Nodes[w], kept.Nodes[w]) {
				t.Errorf("nodes %d and %d share their rules", v, w)
			}
		}
	}
	if !alike(other, kept) {
		t.Errorf("what Take told twice is shared: %v", other)
	}
	again, _ := Put(kept)
	copy(again, "none")
	if more, _ := Put(kept); !bytes.Equal(more, first) {
		t.Error("what Put told twice is shared")
	}
}

// R1 and R2: long rows that are no networks are told as such.
func TestTakeOfLongRows(t *testing.T) {
	for _, b := range [][]byte{
		make([]byte, 1<<20),
		bytes.Repeat([]byte{255}, 1<<20),
		bytes.Repeat([]byte{84}, 1<<20),
		bytes.Repeat([]byte{84, 1, 0}, 1<<18),
		row(groups(256), bytes.Repeat([]byte{84, 1, 0}, 1<<16)),
		row([]byte{1, 84}, groups(1<<20), make([]byte, 1<<20)),
		row([]byte{1, 84}, groups(1<<20), groups(4096), make([]byte, 1<<20-2)),
		row(groups(256), bytes.Repeat(section(row(groups(4096), make([]byte, 8*4096))), 256)),
	} {
		takes(t, framed(b))
		takes(t, b)
	}
}
