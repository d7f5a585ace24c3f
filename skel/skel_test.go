package skel_test

import (
	"math"
	"slices"
	"testing"

	"joinery/api"
	"joinery/asm"
	"joinery/env"
	"joinery/skel"
)

// was and is are the two kinds of sources.
func was(l int) env.Source  { return env.Was{Loc: l} }
func is(n int64) env.Source { return env.Is{N: n} }

// sources are those of a table that aren't the first one's.
type sources map[int]env.Source

// changed answers the first table, written out beside the program, with other sources at some places.
func changed(by sources) env.Table {
	var t env.Table
	for l := range 24 {
		t[l] = was(l)
	}
	for l, s := range by {
		t[l] = s
	}
	return t
}

// to is a way to a node with the first table; by is one with another; lost is one that leads nowhere.
func to(n int) skel.Out                { return skel.Out{To: n, T: changed(nil)} }
func by(n int, other sources) skel.Out { return skel.Out{To: n, T: changed(other)} }
func lost() skel.Out                   { return to(-1) }

func node(at int, outs ...skel.Out) skel.Node { return skel.Node{At: at, Outs: outs} }

// laid is a skeleton with that Entry and those nodes.
func laid(entry skel.Out, nodes ...skel.Node) skel.Skeleton {
	return skel.Skeleton{Entry: entry, Nodes: nodes}
}

// same: R3, a nil list and an empty one are the same.
func same(a, b skel.Skeleton) bool {
	return a.Entry == b.Entry && slices.EqualFunc(a.Nodes, b.Nodes, func(x, y skel.Node) bool {
		return x.At == y.At && slices.Equal(x.Outs, y.Outs)
	})
}

func sameWays(a, b [][]api.Edge) bool {
	return slices.EqualFunc(a, b, slices.Equal[[]api.Edge])
}

// parsed answers the function of a text.
func parsed(t *testing.T, text string) []api.Ins {
	t.Helper()
	f, at, e := asm.Parse(text)
	if e != api.OK {
		t.Fatalf("%q: %d at %d", text, e, at)
	}
	return f
}

// built answers what Build makes of a function that is right.
func built(t *testing.T, f []api.Ins, cut []bool) skel.Skeleton {
	t.Helper()
	s, e := skel.Build(f, cut)
	if e != 0 {
		t.Fatalf("%v, cut %v: %d", f, cut, e)
	}
	return s
}

// leaves: is that what is left of a function?
func leaves(t *testing.T, f []api.Ins, cut []bool, want skel.Skeleton) {
	t.Helper()
	s := built(t, f, cut)
	if s.Entry != want.Entry {
		t.Errorf("%v, cut %v: the Entry is %v; it ought to be %v", f, cut, s.Entry, want.Entry)
	}
	if len(s.Nodes) != len(want.Nodes) {
		t.Fatalf("%v, cut %v: %d nodes; there ought to be %d", f, cut, len(s.Nodes), len(want.Nodes))
	}
	for n, x := range s.Nodes {
		w := want.Nodes[n]
		if x.At != w.At || !slices.Equal(x.Outs, w.Outs) {
			t.Errorf("%v, cut %v: node %d is %v; it ought to be %v", f, cut, n, x, w)
		}
	}
}

// leavesOf is that of a text, with no place cut.
func leavesOf(t *testing.T, text string, want skel.Skeleton) {
	t.Helper()
	leaves(t, parsed(t, text), nil, want)
}

// onlyMoves: is it Const, Mov, Swap or Jump?
func onlyMoves(x api.Ins) bool {
	return x.Op == 1 || x.Op == 2 || x.Op == 3 || x.Op == 16
}

// followed is the path of the chapters' Words, worked out beside the program: where none is come to in as many steps as there are instructions, none will be.
func followed(f []api.Ins, at int) (int, env.Table) {
	table := changed(nil)
	for range f {
		x := f[at]
		if !onlyMoves(x) {
			return at, table
		}
		d, a := table[x.D], table[x.A]
		at++
		switch x.Op {
		case 1:
			table[x.D] = is(x.N)
		case 2:
			table[x.D] = a
		case 3:
			table[x.D], table[x.A] = a, d
		case 16:
			at = x.To
		}
	}
	if !onlyMoves(f[at]) {
		return at, table
	}
	return -1, changed(nil)
}

// begins answers the places from which the ways of a place's node begin.
func begins(f []api.Ins, cut []bool, at int) []int {
	for i, gone := range cut {
		if gone && i == at {
			return nil
		}
	}
	switch x := f[at]; x.Op {
	case 17:
		return []int{x.To, at + 1}
	case 18:
		return nil
	}
	return []int{at + 1}
}

// worked is what the chapter's Words say of a right function: first the nodes' places in their order, then the ways between them.
func worked(f []api.Ins, cut []bool) skel.Skeleton {
	var places []int
	meet := func(begin int) {
		if at, _ := followed(f, begin); at >= 0 && !slices.Contains(places, at) {
			places = append(places, at)
		}
	}
	meet(0)
	for n := 0; n < len(places); n++ {
		for _, begin := range begins(f, cut, places[n]) {
			meet(begin)
		}
	}
	way := func(begin int) skel.Out {
		at, table := followed(f, begin)
		return skel.Out{To: slices.Index(places, at), T: table}
	}
	s := skel.Skeleton{Entry: way(0)}
	for _, at := range places {
		x := skel.Node{At: at}
		for _, begin := range begins(f, cut, at) {
			x.Outs = append(x.Outs, way(begin))
		}
		s.Nodes = append(s.Nodes, x)
	}
	return s
}

// workedWays is P10.2, word by word.
func workedWays(s skel.Skeleton) [][]api.Edge {
	var ways [][]api.Edge
	for n := range s.Nodes {
		var l []api.Edge
		if s.Entry.To == n {
			l = append(l, api.Edge{From: -1, K: 0})
		}
		for from, x := range s.Nodes {
			for k, o := range x.Outs {
				if o.To == n {
					l = append(l, api.Edge{From: from, K: k})
				}
			}
		}
		ways = append(ways, l)
	}
	return ways
}

// long answers a function of so many instructions that moves, and ends.
func long(n int) []api.Ins {
	return append(slices.Repeat([]api.Ins{{Op: api.Mov, D: 3, A: 4}}, n-1), api.Ins{Op: api.Ret, A: 3})
}

// ones are instructions that do more than move and have one way out, one of each Op.
func ones() []api.Ins {
	l := []api.Ins{{Op: api.Load, D: 1, A: 2}, {Op: api.Store, A: 1, B: 2}, {Op: api.Call, D: 1, A: 2, N: 7}}
	for op := api.Add; op <= api.Same; op++ {
		l = append(l, api.Ins{Op: op, D: 1, A: 2, B: 3})
	}
	return l
}

// wrongFunctions are functions that aren't right.
func wrongFunctions() map[string][]api.Ins {
	ret, pad := api.Ins{Op: api.Ret}, api.Ins{Op: api.Mov, D: 3, A: 4}
	return map[string][]api.Ins{
		"nil":                             nil,
		"none":                            {},
		"no end":                          {pad},
		"no end behind a ret":             {ret, pad},
		"const at the end":                {ret, {Op: api.Const, N: 5}},
		"swap at the end":                 {ret, {Op: api.Swap, A: 5}},
		"zero at the end":                 {pad, {Op: api.Zero, To: 0}},
		"add at the end":                  {{Op: api.Add}},
		"no Op":                           {{}, ret},
		"an Op of 19":                     {{Op: 19}, ret},
		"an Op of -1":                     {ret, {Op: -1}, ret},
		"an Op far away":                  {{Op: math.MaxInt}, {Op: math.MinInt}, ret},
		"a field to spare":                {pad, {Op: api.Ret, D: 1}},
		"a jump with a place":             {{Op: api.Jump, D: 1, To: 0}},
		"a const with a place too many":   {{Op: api.Const, D: 1, A: 1}, ret},
		"a mov with a To":                 {{Op: api.Mov, To: 1}, ret},
		"a slot that is needed":           {{Op: api.Ret, A: api.Regs}},
		"a slot that gets a number":       {{Op: api.Load, D: api.Regs}, ret},
		"no place":                        {{Op: api.Mov, A: api.Locs}, ret},
		"a place below 0":                 {{Op: api.Swap, D: -1}, ret},
		"a place far away":                {{Op: api.Const, D: math.MaxInt}, ret},
		"a call too high":                 {{Op: api.Call, N: api.MaxCall + 1}, ret},
		"a jump to behind the last":       {pad, {Op: api.Jump, To: 2}},
		"a jump to where MaxIns would do": {pad, {Op: api.Jump, To: 199}},
		"a jump to beyond MaxIns":         {pad, {Op: api.Jump, To: 200}},
		"a jump below 0":                  {{Op: api.Jump, To: -1}},
		"a jump far away":                 {{Op: api.Jump, To: math.MaxInt}, {Op: api.Jump, To: math.MinInt}},
		"a zero below 0":                  {{Op: api.Zero, To: -1}, ret},
		"a zero to behind the last":       {{Op: api.Zero, To: 2}, ret},
		"MaxIns and one more":             long(api.MaxIns + 1),
		"MaxIns and one more, all round":  slices.Repeat([]api.Ins{{Op: api.Jump}}, api.MaxIns+1),
		"many":                            long(5000),
		"a fault that no way reaches":     {ret, {Op: api.Jump, To: 3}, ret},
		"a fault behind a circle":         {{Op: api.Jump, To: 0}, {Op: api.Ret, A: 8}},
	}
}

// cuts are lists of all lengths for a function of so many instructions: none, all, some.
func cuts(n int) [][]bool {
	l := [][]bool{nil, {}, {true}, {false, true}, make([]bool, n), make([]bool, n+9)}
	for _, size := range []int{n, n + 9} {
		l = append(l, slices.Repeat([]bool{true}, size))
		for k := 2; k <= 4; k++ {
			some := make([]bool, size)
			for i := range some {
				some[i] = i%k == k-1
			}
			l = append(l, some)
		}
	}
	return l
}

// rightTexts are functions of all kinds: that end, that go round, that do both.
func rightTexts() []string {
	return []string{
		"ret r0\n",
		"jump 0\n",
		"mov r1 r0\njump 2\nret r1\n",
		"mov r1 r0\njump 0\n",
		"jump 2\nret r3\njump 1\n",
		"mov s0 r0\ncall r1 r0 7\nmov r2 s0\nret r2\n",
		"mov s0 r1\nconst r1 5\nswap s0 r2\nret r1\n",
		"mov r1 r0\nzero r1 0\nret r1\n",
		"mov r1 r0\nzero r1 4\ncall r2 r1 3\njump 0\njump 6\nret r1\nadd r1 r1 r1\nret r1\n",
		"const r7 3\nconst r6 1\nzero r7 5\nsub r7 r7 r6\njump 2\nmov s15 r0\nmov r1 s15\nret r1\n",
		"zero r0 2\njump 1\nzero r1 2\njump 2\n",
		"zero r0 3\nconst r1 2\njump 1\nmov r2 r1\njump 0\n",
		"swap r0 r1\nswap r1 r2\nswap r2 s0\nswap s0 r0\nload r1 r0\nstore r1 r0\nconst s1 -4\nmov r3 s1\njump 0\n",
		"jump 4\nconst r5 5\njump 6\nadd r0 r0 r0\nmov r5 r4\njump 1\njump 4\n",
		"const r7 1\nxor r2 r0 r0\ncall r3 r2 5\nswap r3 s3\nadd r2 r2 r7\nless r4 r2 r1\nzero r4 8\njump 2\nmov r5 s3\nret r5\n",
		"zero r0 4\nzero r1 6\nzero r2 8\njump 0\ncall r0 r0 1\njump 1\ncall r1 r1 2\njump 2\ndiv r3 r0 r1\nstore r3 r0\nload r2 r3\nret r2\n",
	}
}

// made answers a function of so many instructions, a number's.
func made(n int, seed uint64) []api.Ins {
	draw := func(below int) int {
		seed = seed*6364136223846793005 + 1442695040888963407
		return int(seed>>33) % below
	}
	var f []api.Ins
	for at := range n {
		x := api.Ins{Op: []int{api.Const, api.Mov, api.Swap, api.Jump, api.Zero, api.Add, api.Zero, api.Call, api.Load, api.Store, api.Ret}[draw(5+draw(7))]}
		if at == n-1 {
			x.Op = []int{api.Jump, api.Ret}[draw(2)]
		}
		switch x.Op {
		case api.Const:
			x.D, x.N = draw(24), int64(draw(5)-1)
		case api.Mov, api.Swap:
			x.D, x.A = draw(24), draw(24)
		case api.Add:
			x.Op += draw(9)
			x.D, x.A, x.B = draw(8), draw(8), draw(8)
		case api.Load, api.Call:
			x.D, x.A = draw(8), draw(8)
		case api.Store:
			x.A, x.B = draw(8), draw(8)
		case api.Jump:
			x.To = draw(n)
		case api.Zero:
			x.A, x.To = draw(8), draw(n)
		case api.Ret:
			x.A = draw(8)
		}
		f = append(f, x)
	}
	return f
}

// straight answers a function of so many instructions, each of which is a node's, in their order.
func straight(n int) []api.Ins {
	return append(slices.Repeat([]api.Ins{{Op: api.Add, D: 1, A: 2, B: 3}}, n-1), api.Ins{Op: api.Ret})
}

// each hands over functions of all kinds.
func each(t *testing.T, hand func(f []api.Ins)) {
	t.Helper()
	var fs [][]api.Ins
	for _, text := range rightTexts() {
		fs = append(fs, parsed(t, text))
	}
	for seed := range uint64(400) {
		fs = append(fs, made(1+int(seed)%30, seed))
	}
	for _, n := range []int{9, 40, 200} {
		fs = append(fs, long(n), straight(n), made(n, uint64(n)))
	}
	for _, f := range fs {
		if !asm.Right(f) {
			t.Fatalf("%v isn't right", f)
		}
		hand(f)
	}
}

// eachCut hands over functions of all kinds, with cut lists of all lengths.
func eachCut(t *testing.T, hand func(f []api.Ins, cut []bool)) {
	t.Helper()
	each(t, func(f []api.Ins) {
		for _, cut := range cuts(len(f)) {
			hand(f, cut)
		}
	})
}

// P10.1, R2: a function that isn't right, whatever is cut: ErrArg, and beside it the zero skeleton alone, with a table of nil.
func TestWrongFunctions(t *testing.T) {
	met := map[api.Errno]bool{}
	for what, f := range wrongFunctions() {
		_, why := asm.Check(f)
		met[why] = true
		for _, cut := range cuts(len(f)) {
			s, e := skel.Build(f, cut)
			if e != 1 || s.Entry != (skel.Out{}) || len(s.Nodes) != 0 {
				t.Errorf("%s, %d cut: %v, %d", what, len(cut), s, e)
			}
		}
	}
	for _, e := range []api.Errno{api.ErrArg, api.ErrFull, api.ErrTo, api.ErrEnd, api.ErrUse} {
		if !met[e] {
			t.Errorf("no function is wrong by %d", e)
		}
	}
	if met[api.OK] {
		t.Error("a function is right")
	}
}

// P10.1: the chapter's and the document's examples.
func TestExamples(t *testing.T) {
	leavesOf(t, "mov r1 r0\nzero r1 0\nret r1\n", laid(by(0, sources{1: was(0)}), node(1, by(0, sources{1: was(0)}), to(1)), node(2)))
	leavesOf(t, "mov r1 r0\njump 2\nret r1\n", laid(by(0, sources{1: was(0)}), node(2)))
}

// P10.1: the smallest function.
func TestRetAlone(t *testing.T) {
	for r := range 8 {
		leaves(t, []api.Ins{{Op: api.Ret, A: r}}, nil, laid(to(0), node(0)))
	}
}

// P10.1: the Entry is the way from place 0, through what only moves.
func TestEntry(t *testing.T) {
	for _, x := range []struct {
		text  string
		entry skel.Out
		at    int
	}{
		{"const r3 -7\nret r3\n", by(0, sources{3: is(-7)}), 1},
		{"mov s15 r7\nret r3\n", by(0, sources{23: was(7)}), 1},
		{"swap s0 r2\nret r3\n", by(0, sources{8: was(2), 2: was(8)}), 1},
		{"jump 1\nret r3\n", to(0), 1},
		{"jump 2\nret r3\nret r4\n", to(0), 2},
		{"jump 2\nret r3\nmov r0 r1\njump 1\n", by(0, sources{0: was(1)}), 1},
		{"mov s0 r1\nconst r1 5\nswap s0 r2\nret r1\n", by(0, sources{8: was(2), 1: is(5), 2: was(1)}), 3},
		{"mov r0 r1\nmov r1 r0\nconst r2 9223372036854775807\nmov s3 r2\nconst r2 -9223372036854775808\nret r1\n", by(0, sources{0: was(1), 2: is(math.MinInt64), 11: is(math.MaxInt64)}), 5},
	} {
		leavesOf(t, x.text, laid(x.entry, node(x.at)))
	}
	for n := 2; n <= 200; n++ {
		leaves(t, long(n), nil, laid(by(0, sources{3: was(4)}), node(n-1)))
	}
}

// P10.1: an Entry that leads nowhere: no node, whatever else stands in the function, and whatever is cut.
func TestNoEntry(t *testing.T) {
	for _, text := range []string{
		"jump 0\n",
		"jump 1\njump 0\n",
		"jump 1\njump 1\n",
		"mov r1 r2\njump 0\n",
		"const r1 2\nswap r1 s2\njump 1\n",
		"mov r1 r2\njump 4\nret r1\nadd r1 r2 r3\njump 0\n",
		"jump 3\nret r0\nzero r0 0\njump 0\n",
		"const r1 1\njump 0\nret r1\n",
	} {
		f := parsed(t, text)
		for _, cut := range cuts(len(f)) {
			leaves(t, f, cut, laid(lost()))
		}
	}
}

// P10.1: all but Ret and Zero have one way, from the next place, wherever they stand.
func TestOneWay(t *testing.T) {
	moved := sources{3: was(4)}
	for _, x := range ones() {
		for _, n := range []int{2, 3, 50, 199, 200} {
			for _, at := range []int{0, n / 3, n - 2} {
				f := long(n)
				f[at] = x
				entry, out := by(0, moved), by(1, moved)
				if at == 0 {
					entry = to(0)
				}
				if at == n-2 {
					out = to(1)
				}
				leaves(t, f, nil, laid(entry, node(at, out), node(n-1)))
			}
		}
		leaves(t, []api.Ins{x, {Op: api.Jump, To: 3}, {Op: api.Ret}, {Op: api.Ret, A: 1}}, nil, laid(to(0), node(0, to(1)), node(3)))
		leaves(t, []api.Ins{x, x, {Op: api.Ret}}, nil, laid(to(0), node(0, to(1)), node(1, to(2)), node(2)))
	}
}

// P10.1: a Ret has no way, wherever it stands, and whatever stands behind it.
func TestRetHasNoWay(t *testing.T) {
	for _, behind := range append(ones(), api.Ins{Op: api.Zero}, api.Ins{Op: api.Ret}, api.Ins{Op: api.Mov}, api.Ins{Op: api.Jump, To: 1}) {
		leaves(t, []api.Ins{{Op: api.Ret}, behind, {Op: api.Ret, A: 1}}, nil, laid(to(0), node(0)))
		leaves(t, []api.Ins{{Op: api.Jump, To: 1}, {Op: api.Ret}, behind, {Op: api.Ret}}, nil, laid(to(0), node(1)))
	}
}

// P10.1: a Zero has two ways: first from its To, then from the next place.
func TestZero(t *testing.T) {
	for _, x := range []struct {
		text string
		want skel.Skeleton
	}{
		{"zero r0 2\nret r1\nret r2\n", laid(to(0), node(0, to(1), to(2)), node(2), node(1))},
		{"zero r0 3\nmov r1 r2\nret r1\nconst r1 4\nret r2\n", laid(to(0), node(0, by(1, sources{1: is(4)}), by(2, sources{1: was(2)})), node(4), node(2))},
		{"jump 2\nret r1\nzero r0 1\nret r2\n", laid(to(0), node(2, to(1), to(2)), node(1), node(3))},
		{"mov r1 r2\nzero r0 3\nret r1\nswap r1 s1\njump 2\n", laid(by(0, sources{1: was(2)}), node(1, by(1, sources{1: was(9), 9: was(1)}), to(1)), node(2))},
		// Both ways to one node, and alike.
		{"zero r0 1\nret r1\n", laid(to(0), node(0, to(1), to(1)), node(1))},
		{"zero r0 1\nconst s4 8\nret r1\n", laid(to(0), node(0, by(1, sources{12: is(8)}), by(1, sources{12: is(8)})), node(2))},
		// Both to one node, and unlike.
		{"zero r0 2\nmov r1 r2\nret r1\n", laid(to(0), node(0, to(1), by(1, sources{1: was(2)})), node(2))},
		{"zero r0 3\nmov r1 r2\nret r1\nmov r2 r1\njump 2\n", laid(to(0), node(0, by(1, sources{2: was(1)}), by(1, sources{1: was(2)})), node(2))},
		// To itself by the one way, by the other, by both.
		{"zero r0 0\nret r1\n", laid(to(0), node(0, to(0), to(1)), node(1))},
		{"zero r0 2\njump 0\nret r1\n", laid(to(0), node(0, to(1), to(0)), node(2))},
		{"zero r0 0\nmov r0 r1\njump 0\n", laid(to(0), node(0, to(0), by(0, sources{0: was(1)})))},
	} {
		leavesOf(t, x.text, x.want)
	}
}

// P10.1: ways through what only moves have the tables of that alone, place by place: what the node sets, and what stood ahead of it, is not in them.
func TestTables(t *testing.T) {
	for d := range 24 {
		for a := range 24 {
			for _, m := range []struct {
				x     api.Ins
				other sources
			}{
				{api.Ins{Op: api.Const, D: d, N: int64(a) - 3}, sources{d: is(int64(a) - 3)}},
				{api.Ins{Op: api.Mov, D: d, A: a}, sources{d: was(a)}},
				{api.Ins{Op: api.Swap, D: d, A: a}, sources{d: was(a), a: was(d)}},
			} {
				leaves(t, []api.Ins{m.x, {Op: api.Add, D: 1}, {Op: api.Ret}}, nil, laid(by(0, m.other), node(1, to(1)), node(2)))
				leaves(t, []api.Ins{{Op: api.Call, D: 1}, m.x, {Op: api.Ret}}, nil, laid(to(0), node(0, by(1, m.other)), node(2)))
				leaves(t, []api.Ins{{Op: api.Zero, To: 3}, m.x, {Op: api.Ret}, m.x, {Op: api.Ret}}, nil, laid(to(0), node(0, by(1, m.other), by(2, m.other)), node(4), node(2)))
			}
		}
	}
	leavesOf(t, "const r1 5\nadd r1 r1 r1\nmov r2 r1\nmov s0 r2\nconst r1 6\nload r1 r1\nswap r1 s0\nswap s0 s1\nret r1\n", laid(
		by(0, sources{1: is(5)}),
		node(1, by(1, sources{2: was(1), 8: was(1), 1: is(6)})),
		node(5, by(2, sources{1: was(8), 8: was(9), 9: was(1)})),
		node(8)))
}

// P10.1: ways that lead nowhere.
func TestWaysToNowhere(t *testing.T) {
	for _, x := range ones() {
		leaves(t, []api.Ins{x, {Op: api.Jump, To: 1}}, nil, laid(to(0), node(0, lost())))
		leaves(t, []api.Ins{{Op: api.Jump, To: 2}, {Op: api.Ret}, x, {Op: api.Const, D: 1, N: 5}, {Op: api.Swap, D: 1, A: 9}, {Op: api.Jump, To: 3}}, nil, laid(to(0), node(2, lost())))
	}
	leavesOf(t, "zero r0 2\nret r1\nmov r1 r0\njump 2\n", laid(to(0), node(0, lost(), to(1)), node(1)))
	leavesOf(t, "zero r0 3\nmov r1 r0\njump 1\nret r1\n", laid(to(0), node(0, to(1), lost()), node(3)))
	leavesOf(t, "zero r0 2\njump 1\njump 2\n", laid(to(0), node(0, lost(), lost())))
	leavesOf(t, "zero r0 1\njump 1\n", laid(to(0), node(0, lost(), lost())))
	// No node is numbered by a way that leads nowhere.
	leavesOf(t, "zero r0 5\nconst r1 1\nadd r2 r1 r1\nconst r1 2\njump 3\njump 6\nconst r1 3\ncall r3 r1 4\nret r3\n", laid(to(0), node(0, by(1, sources{1: is(3)}), by(2, sources{1: is(1)})), node(7, to(3)), node(2, lost()), node(8)))
}

// P10.1: ways from a node to itself, and circles of nodes.
func TestCircles(t *testing.T) {
	for _, x := range ones() {
		leaves(t, []api.Ins{x, {Op: api.Jump, To: 0}}, nil, laid(to(0), node(0, to(0))))
		leaves(t, []api.Ins{{Op: api.Mov, D: 3, A: 4}, x, {Op: api.Jump, To: 0}}, nil, laid(by(0, sources{3: was(4)}), node(1, by(0, sources{3: was(4)}))))
	}
	leavesOf(t, "add r0 r1 r2\nsub r0 r1 r2\nmul r0 r1 r2\njump 0\n", laid(to(0), node(0, to(1)), node(1, to(2)), node(2, to(0))))
	leavesOf(t, "add r0 r1 r2\nsub r0 r1 r2\nmul r0 r1 r2\njump 1\n", laid(to(0), node(0, to(1)), node(1, to(2)), node(2, to(1))))
	leavesOf(t, "jump 4\nadd r0 r1 r2\nconst r1 5\njump 6\nsub r0 r1 r2\njump 1\nmul r0 r1 r2\nmov r2 r1\njump 4\n", laid(to(0), node(4, to(1)), node(1, by(2, sources{1: is(5)})), node(6, by(0, sources{2: was(1)}))))
	// Two circles with one node in both.
	leavesOf(t, "zero r0 4\nadd r0 r1 r2\nadd r1 r1 r2\njump 0\nsub r0 r1 r2\njump 0\n", laid(to(0), node(0, to(1), to(2)), node(4, to(0)), node(1, to(3)), node(2, to(0))))
}

// P10.1: nodes are numbered as ways lead to them first, not by their places: those of node 0's ways, in order, then of node 1's, and so on.
func TestOrder(t *testing.T) {
	// Backwards, by jumps: each node's place is ahead of the last one's.
	leavesOf(t, "jump 5\nret r1\nsub r1 r1 r1\njump 1\nret r2\nadd r1 r1 r1\njump 2\n", laid(to(0), node(5, to(1)), node(2, to(2)), node(1)))
	// Forwards and backwards: places 3, 8, 1, 6.
	leavesOf(t, "jump 3\nmul r1 r1 r1\njump 6\nadd r1 r1 r1\njump 8\nret r5\nxor r1 r1 r1\nret r1\nsub r1 r1 r1\njump 1\n", laid(to(0), node(3, to(1)), node(8, to(2)), node(1, to(3)), node(6, to(4)), node(7)))
	// A tree of zeros, each of whose halves ends by itself: all of one depth ahead of all of the next one.
	leavesOf(t, "zero r0 4\nzero r1 3\nret r2\nret r3\nzero r1 6\nret r4\nret r5\n", laid(to(0), node(0, to(1), to(2)), node(4, to(3), to(4)), node(1, to(5), to(6)), node(6), node(5), node(3), node(2)))
	// Of a node to which two ways lead, the first one counts: node 1's way, not node 2's.
	leavesOf(t, "zero r0 4\nadd r0 r0 r0\nconst r0 1\nret r0\ncall r1 r0 2\njump 2\n", laid(to(0), node(0, to(1), to(2)), node(4, by(3, sources{0: is(1)})), node(1, by(3, sources{0: is(1)})), node(3)))
	// A way back to a node that has a number, and then one to a new one.
	leavesOf(t, "zero r0 3\nzero r1 0\nret r1\nzero r2 1\nret r2\n", laid(to(0), node(0, to(1), to(2)), node(3, to(2), to(3)), node(1, to(0), to(4)), node(4), node(2)))
}

// P10.1: places to which no way leads are no nodes: behind a Ret, behind a Jump, reached by what isn't reached alone.
func TestNoWayNoNode(t *testing.T) {
	leavesOf(t, "ret r0\nadd r0 r1 r2\nret r0\n", laid(to(0), node(0)))
	leavesOf(t, "jump 3\nadd r0 r1 r2\nzero r0 1\nret r0\nadd r0 r0 r0\njump 4\n", laid(to(0), node(3)))
	leavesOf(t, "add r0 r0 r0\njump 4\nsub r0 r0 r0\njump 2\nret r0\nzero r0 2\nret r1\n", laid(to(0), node(0, to(1)), node(4)))
	leavesOf(t, "zero r0 4\nret r1\ncall r0 r0 1\njump 2\nret r2\n", laid(to(0), node(0, to(1), to(2)), node(4), node(1)))
}

// mask answers a list of so many, with these cut.
func mask(n int, places ...int) []bool {
	cut := make([]bool, n)
	for _, at := range places {
		cut[at] = true
	}
	return cut
}

// P10.1: a place that is cut and is a node has no ways out; what only it led to is none; and so of lists of all lengths.
func TestCut(t *testing.T) {
	f := parsed(t, "zero r0 3\nadd r1 r1 r1\nret r1\nmov r1 r2\nsub r1 r1 r1\nmul r1 r1 r1\nret r2\n")
	moved := sources{1: was(2)}
	whole := laid(to(0), node(0, by(1, moved), to(2)), node(4, to(3)), node(1, to(4)), node(5, to(5)), node(2), node(6))
	first := laid(to(0), node(0))
	noSub := laid(to(0), node(0, by(1, moved), to(2)), node(4), node(1, to(3)), node(2))
	noAdd := laid(to(0), node(0, by(1, moved), to(2)), node(4, to(3)), node(1), node(5, to(4)), node(6))
	noMul := laid(to(0), node(0, by(1, moved), to(2)), node(4, to(3)), node(1, to(4)), node(5), node(2))
	neither := laid(to(0), node(0, by(1, moved), to(2)), node(4), node(1))
	for _, x := range []struct {
		cut  []bool
		want skel.Skeleton
	}{
		{nil, whole}, {[]bool{}, whole}, {mask(1), whole}, {mask(3), whole}, {mask(7), whole}, {mask(50), whole},
		{mask(1, 0), first}, {mask(2, 0), first}, {mask(7, 0), first}, {mask(99, 0), first}, {mask(7, 0, 1, 2, 3, 4, 5, 6), first},
		{mask(5, 4), noSub}, {mask(6, 4), noSub}, {mask(7, 4), noSub}, {mask(8, 4), noSub}, {mask(300, 4, 7, 8, 299), noSub},
		{mask(2, 1), noAdd}, {mask(7, 1), noAdd}, {mask(9, 1, 8), noAdd},
		{mask(6, 5), noMul}, {mask(7, 5), noMul},
		// What is cut behind a place that is cut is no node: that changes nothing.
		{mask(7, 4, 5), noSub}, {mask(7, 4, 5, 6), noSub}, {mask(7, 1, 2), noAdd},
		{mask(5, 1, 4), neither}, {mask(7, 1, 2, 4, 5, 6), neither},
		// A Ret has no ways to lose.
		{mask(3, 2), whole}, {mask(7, 6), whole}, {mask(7, 2, 6), whole},
		// What only moves is no node.
		{mask(4, 3), whole}, {mask(7, 3), whole}, {mask(7, 3, 4), noSub},
		// Places behind the function's end are none.
		{mask(8, 7), whole}, {mask(20, 7, 8, 9, 19), whole},
	} {
		leaves(t, f, x.cut, x.want)
		leaves(t, f, append(slices.Clone(x.cut), true)[:len(x.cut)], x.want)
	}
}

// P10.1: each instruction that does more, cut: a way leads to it, and none from it.
func TestCutOfEachOp(t *testing.T) {
	for _, x := range append(ones(), api.Ins{Op: api.Zero, To: 2}, api.Ins{Op: api.Zero, To: 0}, api.Ins{Op: api.Ret}) {
		f := []api.Ins{{Op: api.Const, D: 5, N: 6}, x, {Op: api.Ret, A: 5}}
		for _, cut := range [][]bool{mask(2, 1), mask(3, 1), mask(3, 0, 1), mask(3, 1, 2), mask(9, 1, 2, 3, 8)} {
			leaves(t, f, cut, laid(by(0, sources{5: is(6)}), node(1)))
		}
		// Place 0, with all that is behind it.
		leaves(t, []api.Ins{x, {Op: api.Mov}, {Op: api.Ret}}, []bool{true}, laid(to(0), node(0)))
	}
}

// P10.1: a place to which another way leads, too, stays a node, and so does what that leads to.
func TestCutBesideAnotherWay(t *testing.T) {
	f := parsed(t, "zero r0 3\nadd r1 r1 r1\njump 4\nsub r1 r1 r1\ncall r2 r1 1\nret r2\n")
	leaves(t, f, nil, laid(to(0), node(0, to(1), to(2)), node(3, to(3)), node(1, to(3)), node(4, to(4)), node(5)))
	leaves(t, f, mask(6, 1), laid(to(0), node(0, to(1), to(2)), node(3, to(3)), node(1), node(4, to(4)), node(5)))
	leaves(t, f, mask(6, 3), laid(to(0), node(0, to(1), to(2)), node(3), node(1, to(3)), node(4, to(4)), node(5)))
	// Only cut places led to the call: it is no node, cut or not.
	for _, cut := range [][]bool{mask(4, 1, 3), mask(6, 1, 3), mask(6, 1, 3, 4), mask(6, 1, 3, 5)} {
		leaves(t, f, cut, laid(to(0), node(0, to(1), to(2)), node(3), node(1)))
	}
	// A circle is cut open, and the order of what is left hangs on the ways that are left.
	f = parsed(t, "zero r0 2\nadd r1 r1 r1\nsub r1 r1 r1\nmul r1 r1 r1\njump 0\n")
	leaves(t, f, nil, laid(to(0), node(0, to(1), to(2)), node(2, to(3)), node(1, to(1)), node(3, to(0))))
	leaves(t, f, mask(5, 2), laid(to(0), node(0, to(1), to(2)), node(2), node(1, to(1))))
	leaves(t, f, mask(5, 3), laid(to(0), node(0, to(1), to(2)), node(2, to(3)), node(1, to(1)), node(3)))
}

// P10.1: to cut a place whose instruction only moves changes nothing, wherever it stands, place 0 too, and also where it goes round for ever.
func TestCutMoves(t *testing.T) {
	each(t, func(f []api.Ins) {
		var moves []int
		for at, x := range f {
			if onlyMoves(x) {
				moves = append(moves, at)
			}
		}
		leaves(t, f, mask(len(f), moves...), built(t, f, nil))
	})
	leaves(t, parsed(t, "mov r1 r0\nret r1\n"), []bool{true}, laid(by(0, sources{1: was(0)}), node(1)))
	leaves(t, parsed(t, "jump 0\n"), []bool{true}, laid(lost()))
	leaves(t, parsed(t, "jump 1\nadd r0 r0 r0\nconst r1 1\njump 1\n"), []bool{true, false, true, true}, laid(to(0), node(1, by(0, sources{1: is(1)}))))
}

// P10.1: the longest function that is allowed, with as many nodes as it may have, and with the last ones cut off; one instruction more is too many.
func TestLongest(t *testing.T) {
	for _, n := range []int{1, 2, 199, 200} {
		want := laid(to(0))
		for at := range n - 1 {
			want.Nodes = append(want.Nodes, node(at, to(at+1)))
		}
		want.Nodes = append(want.Nodes, node(n-1))
		leaves(t, straight(n), nil, want)
		leaves(t, straight(n), mask(n, n-1), want)
		if n == 1 {
			continue
		}
		last := n - 2
		want.Nodes[last].Outs = nil
		want.Nodes = want.Nodes[:n-1]
		leaves(t, straight(n), mask(n, last), want)
		leaves(t, straight(n), mask(n, last, n-1), want)
		want.Nodes = want.Nodes[:1]
		want.Nodes[0].Outs = nil
		leaves(t, straight(n), slices.Repeat([]bool{true}, n), want)
	}
	if _, e := skel.Build(straight(201), nil); e != api.ErrArg {
		t.Errorf("of 201 instructions: %d", e)
	}
}

// P10.1: as many nodes as may be, with two ways each, whose order is that of their places from both ends inwards.
func TestLongestOfZeros(t *testing.T) {
	// The first half's node i leads to place 199-i, then to place i+1; the other half's ends at once.
	var f []api.Ins
	for at := range 100 {
		f = append(f, api.Ins{Op: api.Zero, A: at % 8, To: 199 - at})
	}
	f = append(f, slices.Repeat([]api.Ins{{Op: api.Ret}}, 100)...)
	want := laid(to(0))
	for at := range 99 {
		want.Nodes = append(want.Nodes, node(at, to(2*at+1), to(2*at+2)), node(199-at))
	}
	// Node 2i is place i; its ways lead to nodes 2i+1 and 2i+2; the last zero's both lead to place 100.
	want.Nodes = append(want.Nodes, node(99, to(199), to(199)), node(100))
	leaves(t, f, nil, want)
}

// small are instructions of which functions are made: some of each kind, with few places, so that they meet.
func small(n int) []api.Ins {
	l := []api.Ins{{Op: api.Const, D: 1, N: 5}, {Op: api.Swap, D: 1, A: 8}, {Op: api.Add, D: 0, A: 1, B: 0}, {Op: api.Ret, A: 0}}
	for to := range n {
		l = append(l, api.Ins{Op: api.Jump, To: to}, api.Ins{Op: api.Zero, A: 0, To: to})
	}
	return l
}

// eachSmall hands over all functions of so many instructions that are made of the small ones.
func eachSmall(n int, hand func(f []api.Ins)) {
	l := small(n)
	f := make([]api.Ins, n)
	var lay func(at int)
	lay = func(at int) {
		if at == n {
			if asm.Right(f) {
				hand(f)
			}
			return
		}
		for _, x := range l {
			f[at] = x
			lay(at + 1)
		}
	}
	lay(0)
}

// P10.1: all functions of few instructions, cut in all ways, and many of more, against what the Words say.
func TestAgainstWords(t *testing.T) {
	most, none, back := 0, 0, 0
	ask := func(f []api.Ins, cut []bool) {
		s, w := built(t, f, cut), worked(f, cut)
		if !same(s, w) {
			t.Fatalf("%v, cut %v: %v; it ought to be %v", f, cut, s, w)
		}
		most = max(most, len(w.Nodes))
		if len(w.Nodes) == 0 {
			none++
		}
		if !slices.IsSortedFunc(w.Nodes, func(x, y skel.Node) int { return x.At - y.At }) {
			back++
		}
	}
	for n := 1; n <= 4; n++ {
		eachSmall(n, func(f []api.Ins) {
			if n == 4 {
				ask(f, nil)
				return
			}
			for bits := range 1 << n {
				cut := make([]bool, n)
				for i := range cut {
					cut[i] = bits>>i&1 == 1
				}
				ask(f, cut)
			}
		})
	}
	eachCut(t, ask)
	if most < 200 || none < 1000 || back < 1000 {
		t.Errorf("%d nodes at most, %d without nodes, %d not in the order of their places", most, none, back)
	}
}
