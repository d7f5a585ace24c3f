package value_test

import (
	"maps"
	"math"
	"slices"
	"testing"

	"joinery/api"
	"joinery/asm"
	"joinery/env"
	"joinery/skel"
	"joinery/value"
)

// The kinds of sources, by the document's numbers.
func none() api.Src       { return api.Src{} }
func reg(l int) api.Src   { return api.Src{Kind: 1, N: int64(l)} }
func num(n int64) api.Src { return api.Src{Kind: 2, N: n} }
func def() api.Src        { return api.Src{Kind: 3} }
func val(l int) api.Src   { return api.Src{Kind: 4, N: int64(l)} }

// edge is the way from a node; entry is the one from the beginning.
func edge(from, k int) api.Edge { return api.Edge{From: from, K: k} }
func entry() api.Edge           { return edge(-1, 0) }

// srcs are what some places have, where it isn't what places have by themselves.
type srcs map[int]api.Src

// begun is what places have at the beginning: registers what they had, slots nothing.
func begun(l int) api.Src {
	if l < 8 {
		return reg(l)
	}
	return none()
}

// has answers what all places have: what they have by themselves, but where it is told otherwise.
func has(by func(l int) api.Src, other srcs) []api.Src {
	l := make([]api.Src, 24)
	for i := range l {
		l[i] = by(i)
	}
	for i, x := range other {
		l[i] = x
	}
	return l
}

// parsed answers the function of a text.
func parsed(t *testing.T, text string) []api.Ins {
	t.Helper()
	f, at, e := asm.Parse(text)
	if e != api.OK {
		t.Fatalf("%q: %d at %d", text, e, at)
	}
	return f
}

// built answers what skel.Build makes of a function that is right.
func built(t *testing.T, f []api.Ins, cut []bool) skel.Skeleton {
	t.Helper()
	s, e := skel.Build(f, cut)
	if e != api.OK {
		t.Fatalf("%v, cut %v: %d", f, cut, e)
	}
	return s
}

// mask answers a list of so many places, of which those are cut.
func mask(n int, cut ...int) []bool {
	l := make([]bool, n)
	for _, at := range cut {
		l[at] = true
	}
	return l
}

// setBy answers the place that an instruction sets, by the table of chapter 3; -1, if it sets none.
func setBy(x api.Ins) int {
	if x.Op >= 4 && x.Op <= 15 && x.Op != 14 {
		return x.D
	}
	return -1
}

// neededBy answers the places that an instruction needs, by that table.
func neededBy(x api.Ins) []int {
	switch {
	case x.Op >= 4 && x.Op <= 12, x.Op == 14:
		return []int{x.A, x.B}
	case x.Op == 13, x.Op == 15, x.Op == 17, x.Op == 18:
		return []int{x.A}
	}
	return nil
}

// onlyMoves: is it Const, Mov, Swap or Jump?
func onlyMoves(x api.Ins) bool {
	return x.Op == 1 || x.Op == 2 || x.Op == 3 || x.Op == 16
}

// out answers the way of a skeleton that is there.
func out(s skel.Skeleton, e api.Edge) skel.Out {
	if e.From == -1 {
		return s.Entry
	}
	return s.Nodes[e.From].Outs[e.K]
}

// workedBy is what the chapter's Words say of a place and a way of a skeleton that was built.
func workedBy(f []api.Ins, s skel.Skeleton, e api.Edge, l int) api.Src {
	x := out(s, e).T[l]
	if i, ok := x.(env.Is); ok {
		return num(i.N)
	}
	was := x.(env.Was).Loc
	switch {
	case e.From == -1 && was < 8:
		return reg(was)
	case e.From == -1:
		return none()
	case setBy(f[s.Nodes[e.From].At]) == was:
		return def()
	}
	return val(was)
}

// workedAll is that of all places by all ways to all nodes.
func workedAll(f []api.Ins, s skel.Skeleton) [][][]api.Src {
	var all [][][]api.Src
	for _, ways := range skel.Ways(s) {
		var node [][]api.Src
		for _, e := range ways {
			node = append(node, has(func(l int) api.Src { return workedBy(f, s, e, l) }, nil))
		}
		all = append(all, node)
	}
	return all
}

func sameFacts(a, b [][]api.Src) bool {
	return slices.EqualFunc(a, b, slices.Equal[[]api.Src])
}

func sameAll(a, b [][][]api.Src) bool {
	return slices.EqualFunc(a, b, sameFacts)
}

// hasBy: by that way, do the places have what they have behind no instruction at all, but where it is told otherwise?
func hasBy(t *testing.T, f []api.Ins, cut []bool, e api.Edge, other srcs) {
	t.Helper()
	s := built(t, f, cut)
	by := begun
	if e.From >= 0 {
		by = val
	}
	for l, want := range has(by, other) {
		if x := value.By(f, s, e, l); x != want {
			t.Errorf("%v, cut %v: by %v place %d has %v; it ought to be %v", f, cut, e, l, x, want)
		}
	}
}

// P11.1: by the Entry: registers that were, slots that were, numbers.
func TestByEntry(t *testing.T) {
	for _, x := range []struct {
		text  string
		other srcs
	}{
		{"ret r0\n", nil},
		{"add r1 r2 r3\nret r1\n", nil},
		{"jump 1\nret r1\n", nil},
		{"const r1 5\nret r1\n", srcs{1: num(5)}},
		{"const s1 5\nret r1\n", srcs{9: num(5)}},
		{"const r1 0\nret r1\n", srcs{1: num(0)}},
		{"const s0 0\nret r1\n", srcs{8: num(0)}},
		{"const r7 9223372036854775807\nconst s15 -9223372036854775808\nret r1\n", srcs{7: num(math.MaxInt64), 23: num(math.MinInt64)}},
		{"mov r1 r2\nret r1\n", srcs{1: reg(2)}},
		{"mov s0 r7\nret r1\n", srcs{8: reg(7)}},
		{"mov r7 s0\nret r1\n", srcs{7: none()}},
		{"mov s0 s1\nret r1\n", nil},
		{"swap r0 r7\nret r1\n", srcs{0: reg(7), 7: reg(0)}},
		{"swap s0 r7\nret r1\n", srcs{7: none(), 8: reg(7)}},
		{"swap s0 s15\nret r1\n", nil},
		{"const r1 5\nmov s3 r1\nret r1\n", srcs{1: num(5), 11: num(5)}},
		{"const r1 5\nmov s3 r1\nconst r1 6\nmov r2 s3\nret r1\n", srcs{1: num(6), 2: num(5), 11: num(5)}},
		{"const s3 -4\nswap s3 r0\nret r1\n", srcs{0: num(-4), 11: reg(0)}},
		{"mov s0 r1\nconst r1 5\nswap s0 r2\nret r1\n", srcs{8: reg(2), 1: num(5), 2: reg(1)}},
		{"const r1 5\njump 3\nret r2\nmov r1 s2\njump 2\n", srcs{1: none()}},
	} {
		hasBy(t, parsed(t, x.text), nil, entry(), x.other)
	}
}

// P11.1: every place by the Entry, moved to every other.
func TestByEntryEachPlace(t *testing.T) {
	for d := range 24 {
		for a := range 24 {
			ret := api.Ins{Op: api.Ret}
			hasBy(t, []api.Ins{{Op: api.Const, D: d, N: int64(a)}, ret}, nil, entry(), srcs{d: num(int64(a))})
			hasBy(t, []api.Ins{{Op: api.Mov, D: d, A: a}, ret}, nil, entry(), srcs{d: begun(a)})
			hasBy(t, []api.Ins{{Op: api.Swap, D: d, A: a}, ret}, nil, entry(), srcs{d: begun(a), a: begun(d)})
		}
	}
}

// ones are instructions that do more than move and have one way out, one of each Op, with D in r1.
func ones() []api.Ins {
	l := []api.Ins{{Op: api.Load, D: 1, A: 2}, {Op: api.Store, A: 1, B: 2}, {Op: api.Call, D: 1, A: 2, N: 7}}
	for op := api.Add; op <= api.Same; op++ {
		l = append(l, api.Ins{Op: op, D: 1, A: 2, B: 3})
	}
	return l
}

// P11.1: by a way from a node, of each operation that has one way: the place that it sets, all others, and what is moved behind it.
func TestByNode(t *testing.T) {
	for _, x := range ones() {
		// What r1 has behind the instruction.
		set := def()
		if x.Op == api.Store {
			set = val(1)
		}
		for _, c := range []struct {
			moves string
			other srcs
		}{
			{"", nil},
			{"const r1 7\n", srcs{1: num(7)}},
			{"const r4 7\n", srcs{4: num(7)}},
			{"const s4 -9223372036854775808\n", srcs{12: num(math.MinInt64)}},
			{"mov r4 r1\n", srcs{4: set}},
			{"mov s4 r1\n", srcs{12: set}},
			{"mov r1 r4\n", srcs{1: val(4)}},
			{"mov r1 s0\n", srcs{1: val(8)}},
			{"mov s0 s15\n", srcs{8: val(23)}},
			{"swap r1 s0\n", srcs{1: val(8), 8: set}},
			{"swap s0 r1\n", srcs{1: val(8), 8: set}},
			{"swap r2 r3\n", srcs{2: val(3), 3: val(2)}},
			{"mov s0 r1\nconst r1 5\nswap s0 r2\n", srcs{8: val(2), 1: num(5), 2: set}},
			{"const r1 5\nmov r6 r1\nconst r1 6\n", srcs{1: num(6), 6: num(5)}},
		} {
			other := with(srcs{1: set}, c.other)
			// To another node, and back to this one.
			for _, end := range []string{"ret r0\n", "jump 0\n"} {
				hasBy(t, append([]api.Ins{x}, parsed(t, c.moves+end)...), nil, edge(0, 0), other)
			}
		}
	}
}

// with answers what places have, with more told.
func with(other, more srcs) srcs {
	both := srcs{}
	maps.Copy(both, other)
	maps.Copy(both, more)
	return both
}

// P11.1: each register that an operation sets, and all places that it doesn't.
func TestBySetEachPlace(t *testing.T) {
	for _, x := range ones() {
		for d := range 8 {
			x.D = d
			other := srcs{d: def()}
			if x.Op == api.Store {
				x.D, other = 0, nil
			}
			hasBy(t, []api.Ins{x, {Op: api.Ret}}, nil, edge(0, 0), other)
			hasBy(t, []api.Ins{x, x, {Op: api.Ret}}, nil, edge(1, 0), other)
			for l := range 24 {
				moved := def()
				if x.Op == api.Store || l != d {
					moved = val(l)
				}
				hasBy(t, []api.Ins{x, {Op: api.Mov, D: 23, A: l}, {Op: api.Ret}}, nil, edge(0, 0), with(other, srcs{23: moved}))
			}
		}
	}
}

// P11.1: by each of a Zero's two ways; a Zero sets nothing.
func TestByZero(t *testing.T) {
	f := parsed(t, "zero r0 4\nconst r0 3\nswap r2 s2\njump 6\nmov r1 r0\nconst s3 -1\nret r1\n")
	hasBy(t, f, nil, edge(0, 0), srcs{1: val(0), 11: num(-1)})
	hasBy(t, f, nil, edge(0, 1), srcs{0: num(3), 2: val(10), 10: val(2)})
	for a := range 8 {
		for _, k := range []int{0, 1} {
			hasBy(t, []api.Ins{{Op: api.Zero, A: a, To: 1}, {Op: api.Ret}}, nil, edge(0, k), nil)
			hasBy(t, []api.Ins{{Op: api.Zero, A: a, To: 2}, {Op: api.Mov, D: 3, A: a}, {Op: api.Ret}}, nil, edge(0, k), []srcs{nil, {3: val(a)}}[k])
			// To itself.
			hasBy(t, []api.Ins{{Op: api.Const, D: 2, N: 6}, {Op: api.Zero, A: a, To: 0}, {Op: api.Jump, To: 1}}, nil, edge(0, k), []srcs{{2: num(6)}, nil}[k])
		}
	}
	// From behind another node: what that one set is what this one had.
	f = parsed(t, "call r1 r0 1\nzero r1 3\nmov r2 r1\nret r2\n")
	hasBy(t, f, nil, edge(1, 0), nil)
	hasBy(t, f, nil, edge(1, 1), srcs{2: val(1)})
}

// P11.1: the way counts by its node, not by its place, and by the skeleton that was handed in.
func TestByNumbersOfNodes(t *testing.T) {
	f := parsed(t, "jump 5\nmov r3 r4\nret r1\nsub r2 r1 r1\njump 1\ncall r1 r1 2\nconst s0 9\njump 3\n")
	hasBy(t, f, nil, entry(), nil)
	hasBy(t, f, nil, edge(0, 0), srcs{1: def(), 8: num(9)})
	hasBy(t, f, nil, edge(1, 0), srcs{2: def(), 3: val(4)})
	// Of a place that is cut other nodes get other numbers.
	g := parsed(t, "zero r0 4\nadd r1 r1 r1\nmov r2 r1\nret r2\nmul r3 r3 r3\nload r4 r4\nret r4\n")
	hasBy(t, g, nil, edge(1, 0), srcs{3: def()})
	hasBy(t, g, nil, edge(2, 0), srcs{1: def(), 2: def()})
	hasBy(t, g, nil, edge(3, 0), srcs{4: def()})
	hasBy(t, g, mask(7, 4), edge(2, 0), srcs{1: def(), 2: def()})
	if x := value.By(g, built(t, g, mask(7, 4)), edge(1, 0), 3); x != none() {
		t.Errorf("from a place that is cut: %v", x)
	}
	if x := value.By(g, built(t, g, mask(7, 4)), edge(3, 0), 3); x != none() {
		t.Errorf("from a ret: %v", x)
	}
}

// P11.1: ways and places that are not there.
func TestByNotThere(t *testing.T) {
	far := []int{math.MinInt, math.MinInt + 1, math.MinInt32, -1 << 32, -201, -25, -24, -3, -2, 24, 25, 200, 201, 255, 256, math.MaxInt32, 1 << 32, 1<<32 + 1, math.MaxInt - 1, math.MaxInt}
	f := parsed(t, "const r1 5\nzero r0 4\ncall r2 r0 1\nstore r1 r2\nret r1\n")
	for _, cut := range [][]bool{nil, mask(5, 3), mask(5, 2), mask(5, 1)} {
		s := built(t, f, cut)
		ways := map[api.Edge]bool{entry(): true}
		for n, x := range s.Nodes {
			for k := range x.Outs {
				ways[edge(n, k)] = true
			}
		}
		some := append([]int{-1, 0, 1, 2, 3, 4, 5, 6}, far...)
		for _, from := range some {
			for _, k := range some {
				for l := range 24 {
					if x := value.By(f, s, edge(from, k), l); !ways[edge(from, k)] && x != none() {
						t.Fatalf("cut %v: by the way %d of node %d, which is not there, %d has %v", cut, k, from, l, x)
					}
				}
			}
		}
		for e := range ways {
			for _, l := range append([]int{-1, 24}, far...) {
				if x := value.By(f, s, e, l); x != none() && (l < 0 || l > 23) {
					t.Fatalf("cut %v: by %v %d, which is no place, has %v", cut, e, l, x)
				}
			}
		}
	}
}

// P11.1: a function without nodes has no ways but the Entry, which leads nowhere.
func TestNoNodes(t *testing.T) {
	for _, text := range []string{"jump 0\n", "jump 1\njump 0\n", "const r1 5\njump 0\n", "mov r1 r2\njump 4\nret r1\nadd r1 r2 r3\njump 0\n"} {
		f := parsed(t, text)
		s := built(t, f, nil)
		if all := value.All(f, s); len(all) != 0 {
			t.Errorf("%q: %v", text, all)
		}
		if facts := value.Facts(f, s); len(facts) != 0 {
			t.Errorf("%q: %v", text, facts)
		}
		for l := range 24 {
			for _, e := range []api.Edge{edge(-1, 1), edge(-1, -1), edge(-2, 0), edge(0, 0), edge(1, 0)} {
				if x := value.By(f, s, e, l); x != none() {
					t.Errorf("%q: by %v place %d has %v", text, e, l, x)
				}
			}
		}
	}
}

// P11.1: All by hand: for each node, for each way to it in the order of skel.Ways, for each place.
func TestAll(t *testing.T) {
	for _, x := range []struct {
		text string
		want [][][]api.Src
	}{
		{"ret r0\n", [][][]api.Src{{has(begun, nil)}}},
		{"const r1 5\nret r1\n", [][][]api.Src{{has(begun, srcs{1: num(5)})}}},
		{"mov r1 r0\nzero r1 0\nret r1\n", [][][]api.Src{
			{has(begun, srcs{1: reg(0)}), has(val, srcs{1: val(0)})},
			{has(val, nil)},
		}},
		{"mov s0 r0\ncall r1 r0 7\nmov r2 s0\nret r2\n", [][][]api.Src{
			{has(begun, srcs{8: reg(0)})},
			{has(val, srcs{1: def(), 2: val(8)})},
		}},
		{"zero r0 3\nload r1 r2\njump 3\nmov r3 r1\nret r3\n", [][][]api.Src{
			{has(begun, nil)},
			{has(val, srcs{3: val(1)}), has(val, srcs{1: def(), 3: def()})},
			{has(val, nil)},
		}},
		// Two ways of one node to one node, and one of a node behind it.
		{"zero r0 2\nconst r1 1\nstore r1 r2\nconst r1 2\njump 2\n", [][][]api.Src{
			{has(begun, nil)},
			{has(val, nil), has(val, srcs{1: num(1)}), has(val, srcs{1: num(2)})},
		}},
		{"add r1 r1 r1\nzero r1 4\nmov s1 r1\njump 0\nswap s1 r1\njump 0\n", [][][]api.Src{
			{has(begun, nil), has(val, srcs{1: val(9), 9: val(1)}), has(val, srcs{9: val(1)})},
			{has(val, srcs{1: def()})},
		}},
		// A way that leads nowhere leads to no node.
		{"zero r0 2\nret r1\nconst r1 5\njump 2\n", [][][]api.Src{{has(begun, nil)}, {has(val, nil)}}},
	} {
		f := parsed(t, x.text)
		if all := value.All(f, built(t, f, nil)); !sameAll(all, x.want) {
			t.Errorf("%q: %v; it ought to be %v", x.text, all, x.want)
		}
	}
	f := parsed(t, "zero r0 3\nload r1 r2\njump 3\nmov r3 r1\nret r3\n")
	if all := value.All(f, built(t, f, mask(5, 1))); !sameAll(all, [][][]api.Src{{has(begun, nil)}, {has(val, srcs{3: val(1)})}, {has(val, nil)}}) {
		t.Errorf("with a place cut: %v", all)
	}
}

// P11.1: functions of all kinds, with some places cut, against the chapter's Words: All, and By of each place by each way to a node.
func TestAllAgainstWords(t *testing.T) {
	kinds := map[int]int{}
	eachCut(t, func(f []api.Ins, cut []bool) {
		s := built(t, f, cut)
		want := workedAll(f, s)
		if all := value.All(f, s); !sameAll(all, want) {
			t.Fatalf("%v, cut %v: %v; it ought to be %v", f, cut, all, want)
		}
		for _, node := range want {
			for _, way := range node {
				for _, x := range way {
					kinds[x.Kind]++
				}
			}
		}
	})
	each(t, func(f []api.Ins) {
		s := built(t, f, nil)
		if len(s.Nodes) > 6 {
			return
		}
		want := workedAll(f, s)
		for n, ways := range skel.Ways(s) {
			for w, e := range ways {
				for l := range 24 {
					if x := value.By(f, s, e, l); x != want[n][w][l] {
						t.Fatalf("%v: by %v place %d has %v; it ought to be %v", f, e, l, x, want[n][w][l])
					}
				}
			}
		}
	})
	for kind := range 5 {
		if kinds[kind] < 1000 {
			t.Errorf("of kind %d were only %d", kind, kinds[kind])
		}
	}
}

// P11.1: the longest function: by ways from all of its nodes.
func TestByOfLongest(t *testing.T) {
	f := straight(200)
	f[0] = api.Ins{Op: api.Const, D: 23, N: 4}
	f[198] = api.Ins{Op: api.Mov, D: 0, A: 1}
	hasBy(t, f, nil, entry(), srcs{23: num(4)})
	for _, n := range []int{0, 1, 100, 195} {
		hasBy(t, f, nil, edge(n, 0), srcs{1: def()})
	}
	hasBy(t, f, nil, edge(196, 0), srcs{0: def(), 1: def()})
	s := built(t, f, nil)
	if all := value.All(f, s); len(all) != 198 || !sameAll(all, workedAll(f, s)) {
		t.Errorf("%d nodes", len(all))
	}
	for _, e := range []api.Edge{edge(197, 0), edge(198, 0), edge(199, 0), edge(200, 0), edge(196, 1)} {
		if x := value.By(f, s, e, 1); x != none() {
			t.Errorf("by %v: %v", e, x)
		}
	}
}
