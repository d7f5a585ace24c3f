package skel_test

import (
	"math"
	"slices"
	"testing"

	"joinery/api"
	"joinery/asm"
	"joinery/env"
	"joinery/run"
	"joinery/skel"
	"joinery/step"
)

// edge is the way from a node; entry is the one from the beginning.
func edge(from, k int) api.Edge { return api.Edge{From: from, K: k} }
func entry() api.Edge           { return edge(-1, 0) }

// edges are the ways to one node.
func edges(l ...api.Edge) []api.Edge { return l }

// lead: are those the ways to each node?
func lead(t *testing.T, what any, s skel.Skeleton, want ...[]api.Edge) {
	t.Helper()
	ways := skel.Ways(s)
	if len(ways) != len(want) {
		t.Fatalf("%v: ways to %d nodes; there are %d", what, len(ways), len(want))
	}
	for n, l := range ways {
		if !slices.Equal(l, want[n]) {
			t.Errorf("%v: to node %d %v; there ought to be %v", what, n, l, want[n])
		}
	}
}

// P10.2: the ways to each node of skeletons that were built.
func TestWaysOfBuilt(t *testing.T) {
	for _, x := range []struct {
		text string
		want [][]api.Edge
	}{
		{"jump 0\n", nil},
		{"ret r0\n", [][]api.Edge{edges(entry())}},
		{"mov r1 r0\nzero r1 0\nret r1\n", [][]api.Edge{edges(entry(), edge(0, 0)), edges(edge(0, 1))}},
		{"add r0 r1 r2\njump 0\n", [][]api.Edge{edges(entry(), edge(0, 0))}},
		{"add r0 r1 r2\njump 1\n", [][]api.Edge{edges(entry())}},
		{"add r0 r1 r2\nsub r0 r1 r2\nmul r0 r1 r2\njump 0\n", [][]api.Edge{edges(entry(), edge(2, 0)), edges(edge(0, 0)), edges(edge(1, 0))}},
		// Several ways from one node to one node, and to itself.
		{"zero r0 1\nret r1\n", [][]api.Edge{edges(entry()), edges(edge(0, 0), edge(0, 1))}},
		{"zero r0 0\njump 0\n", [][]api.Edge{edges(entry(), edge(0, 0), edge(0, 1))}},
		{"add r0 r0 r0\nzero r0 1\njump 1\n", [][]api.Edge{edges(entry()), edges(edge(0, 0), edge(1, 0), edge(1, 1))}},
		// Ways that lead nowhere lead to no node.
		{"zero r0 2\nret r1\njump 2\n", [][]api.Edge{edges(entry()), edges(edge(0, 1))}},
		{"zero r0 2\njump 1\nret r1\n", [][]api.Edge{edges(entry()), edges(edge(0, 0))}},
		// Several ways to one node, from nodes behind it, too.
		{"mov r1 r0\nzero r1 4\ncall r2 r1 3\njump 0\njump 6\nret r1\nadd r1 r1 r1\nret r1\n", [][]api.Edge{edges(entry(), edge(2, 0)), edges(edge(0, 0)), edges(edge(0, 1)), edges(edge(1, 0))}},
		{"zero r0 5\nzero r1 5\nzero r2 0\nzero r3 1\njump 2\nret r0\n", [][]api.Edge{
			edges(entry(), edge(3, 0)),
			edges(edge(0, 0), edge(2, 0)),
			edges(edge(0, 1), edge(4, 0)),
			edges(edge(2, 1), edge(4, 1)),
			edges(edge(3, 1)),
		}},
	} {
		lead(t, x.text, built(t, parsed(t, x.text), nil), x.want...)
	}
	f := parsed(t, "zero r0 3\nadd r1 r1 r1\njump 4\nsub r1 r1 r1\ncall r2 r1 1\nret r2\n")
	lead(t, "none cut", built(t, f, nil), edges(entry()), edges(edge(0, 0)), edges(edge(0, 1)), edges(edge(1, 0), edge(2, 0)), edges(edge(3, 0)))
	lead(t, "one cut", built(t, f, mask(2, 1)), edges(entry()), edges(edge(0, 0)), edges(edge(0, 1)), edges(edge(1, 0)), edges(edge(3, 0)))
	lead(t, "the other cut", built(t, f, mask(4, 3)), edges(entry()), edges(edge(0, 0)), edges(edge(0, 1)), edges(edge(2, 0)), edges(edge(3, 0)))
	lead(t, "both cut", built(t, f, mask(4, 1, 3)), edges(entry()), edges(edge(0, 0)), edges(edge(0, 1)))
}

// P10.2: as many nodes as may be, and as many ways to one node.
func TestWaysOfLongest(t *testing.T) {
	want := [][]api.Edge{edges(entry())}
	for n := range 199 {
		want = append(want, edges(edge(n, 0)))
	}
	lead(t, "200 in a row", built(t, straight(200), nil), want...)
	// All zeros lead to the first one, and to the one behind them.
	f := append(slices.Repeat([]api.Ins{{Op: api.Zero}}, 199), api.Ins{Op: api.Ret})
	for n := range 199 {
		want[0] = append(want[0], edge(n, 0))
		want[n+1] = edges(edge(n, 1))
	}
	lead(t, "199 zeros", built(t, f, nil), want...)
}

// P10.2: skeletons that were not built: ways that lead to no node are left out, and all others keep their order and which of their node's they are.
func TestWaysOfOthers(t *testing.T) {
	lead(t, "the zero one", skel.Skeleton{})
	lead(t, "an empty one", laid(to(0), []skel.Node{}...))
	for _, n := range []int{-1, 0, 1, -2, math.MinInt, math.MaxInt, math.MinInt32, math.MaxInt32, 1 << 32} {
		lead(t, n, laid(to(n)))
	}
	for _, n := range []int{-1, -2, -3, 3, 4, 200, 256, math.MinInt, math.MinInt + 1, math.MaxInt, math.MinInt32, math.MaxInt32, 1 << 32, -1 << 32, 1<<32 + 1} {
		lead(t, n, laid(to(n), node(0), node(1), node(2)), nil, nil, nil)
		lead(t, n, laid(to(1), node(0, to(n)), node(1, to(n), to(n)), node(2)), nil, edges(entry()), nil)
		lead(t, n, laid(to(n), node(0, to(n), to(2), to(n), to(0)), node(1, to(2), to(n)), node(2, to(n), to(n), to(2))), edges(edge(0, 3)), nil, edges(edge(0, 1), edge(1, 0), edge(2, 2)))
	}
	// The Entry is ahead of all others wherever it leads, and it is none of a node's.
	lead(t, "to the last", laid(to(2), node(0, to(2)), node(1, to(2)), node(2, to(2))), nil, nil, edges(entry(), edge(0, 0), edge(1, 0), edge(2, 0)))
	// More ways than an instruction has, in no order of the nodes; places and tables that may not be.
	lead(t, "many ways", skel.Skeleton{Entry: skel.Out{To: 1}, Nodes: []skel.Node{
		{At: -5, Outs: []skel.Out{{To: 1}, {To: 0}, {To: 1}, {To: 7}, {To: 1}, {To: 0}}},
		{At: 1 << 40},
		{At: -5, Outs: []skel.Out{{To: 0}, {To: -1}, {To: 2}, {To: 1}}},
	}}, edges(edge(0, 1), edge(0, 5), edge(2, 0)), edges(entry(), edge(0, 0), edge(0, 2), edge(0, 4), edge(2, 3)), edges(edge(2, 2)))
	// Nodes to which none lead have none.
	lead(t, "no way", laid(lost(), node(0), node(1)), nil, nil)
	// More nodes than a function has instructions.
	many := laid(to(999))
	for range 1000 {
		many.Nodes = append(many.Nodes, node(0, to(0), to(1000), to(999)))
	}
	ways := skel.Ways(many)
	if !sameWays(ways, workedWays(many)) || len(ways) != 1000 || len(ways[0]) != 1000 || len(ways[999]) != 1001 {
		t.Error("the ways of many nodes aren't those that there are")
	}
}

// odd answers skeletons that were not built, a number's.
func odd(seed uint64) skel.Skeleton {
	draw := func(below int) int {
		seed = seed*6364136223846793005 + 1442695040888963407
		return int(seed>>33) % below
	}
	n := draw(7)
	way := func() skel.Out { return skel.Out{To: draw(n+4) - 2} }
	s := skel.Skeleton{Entry: way()}
	for range n {
		x := skel.Node{At: draw(400) - 100}
		for range draw(5) {
			x.Outs = append(x.Outs, way())
		}
		s.Nodes = append(s.Nodes, x)
	}
	return s
}

// eachSkeleton hands over skeletons of all kinds, built and not.
func eachSkeleton(t *testing.T, hand func(s skel.Skeleton)) {
	t.Helper()
	eachCut(t, func(f []api.Ins, cut []bool) { hand(built(t, f, cut)) })
	for seed := range uint64(3000) {
		hand(odd(seed))
	}
}

// P10.2: skeletons of all kinds, against what the promise says.
func TestWaysAgainstWords(t *testing.T) {
	eachSkeleton(t, func(s skel.Skeleton) {
		if ways, want := skel.Ways(s), workedWays(s); !sameWays(ways, want) {
			t.Fatalf("%v: %v; it ought to be %v", s, ways, want)
		}
	})
}

// some are cases with which functions are run: numbers that are 0 and others, heaps of some words and of none.
func some() []api.Case {
	return []api.Case{
		{R: [8]int64{}, Heap: []int64{0, 0, 0}, Answers: make([]int64, 40)},
		{R: [8]int64{1, 2, 0, 1, 2, 0, 1, 0}, Heap: []int64{2, 1, 0, 5}, Answers: []int64{0, 1, 0, 2, 1, 0, 0, 3, 1, 1}},
		{R: [8]int64{0, 1, 2, 3, 4, 5, 6, 7}, Heap: make([]int64, 16), Answers: []int64{1, 0, 1}},
		{R: [8]int64{-1, 9, -1, 9, -1, 9, -1, 9}},
	}
}

// seen is what the walks of a test met: ways, among them second ones of zeros, those that lead nowhere, and nodes that are cut.
type seen struct{ ways, second, lost, cut int }

// walk holds a run against a skeleton: it is followed from node to node, for so many of them.
func walk(t *testing.T, f []api.Ins, cut []bool, c api.Case, nodes int, met *seen) (steps, work int) {
	t.Helper()
	s := built(t, f, cut)
	st, o := run.Begin(c), s.Entry
	for range nodes {
		st = moved(t, f, st, o, s, &steps)
		met.ways++
		if o.To == -1 {
			met.lost++
			return steps, work
		}
		if len(cut) > st.At && cut[st.At] {
			met.cut++
			return steps, work
		}
		next, _, out, e := step.Do(f, st, c.Answers)
		if e != api.OK {
			t.Fatalf("%v at %d: %d", f, st.At, e)
		}
		steps++
		work++
		if out.How != api.Runs {
			return steps, work
		}
		k := 0
		if x := f[st.At]; x.Op == api.Zero && st.L[x.A].V != 0 {
			k = 1
			met.second++
		}
		o, st = s.Nodes[o.To].Outs[k], next
	}
	return steps, work
}

// moved answers where a state is when it has done all that only moves: it must be the node of that way, with what its table fills; or it moves for ever, if there is none.
func moved(t *testing.T, f []api.Ins, st api.State, o skel.Out, s skel.Skeleton, steps *int) api.State {
	t.Helper()
	begin, before := st.At, st.L
	for range f {
		if !onlyMoves(f[st.At]) {
			break
		}
		st, _, _, _ = step.Do(f, st, nil)
		*steps++
	}
	if onlyMoves(f[st.At]) {
		if o.To != -1 {
			t.Fatalf("%v, from %d: it moves for ever, and the way leads to node %d", f, begin, o.To)
		}
		return st
	}
	if o.To < 0 || o.To >= len(s.Nodes) {
		t.Fatalf("%v, from %d: it comes to %d, and the way leads to %d", f, begin, st.At, o.To)
	}
	if at := s.Nodes[o.To].At; at != st.At {
		t.Fatalf("%v, from %d: it comes to %d, and the way leads to %d", f, begin, st.At, at)
	}
	if st.L != env.Fill(o.T, before) {
		t.Fatalf("%v, from %d: at %d it has %v, and the way fills %v", f, begin, st.At, st.L, env.Fill(o.T, before))
	}
	return st
}

// P10.3: a run does more than move just at the nodes' places, in turn, as the ways say; and what places have there is what the ways' tables fill.
func TestRunsGoAsTheWaysSay(t *testing.T) {
	var met seen
	each(t, func(f []api.Ins) {
		for _, c := range some() {
			steps, work := walk(t, f, nil, c, 60, &met)
			// The run itself, of as many steps, did more than move as often.
			c.Fuel = min(steps, api.MaxFuel)
			trace, _, e := run.Run(f, c)
			if e != api.OK || steps <= api.MaxFuel && trace.Work != work {
				t.Fatalf("%v: %d nodes, and the run did %d", f, work, trace.Work)
			}
		}
	})
	if met.ways < 5000 || met.second < 500 || met.lost < 100 {
		t.Errorf("the runs met too little: %+v", met)
	}
}

// P10.3: up to a place that is cut, too; and that has no ways.
func TestRunsGoAsTheWaysSayTillACut(t *testing.T) {
	var met seen
	eachCut(t, func(f []api.Ins, cut []bool) {
		for _, c := range some()[:2] {
			walk(t, f, cut, c, 20, &met)
		}
	})
	if met.ways < 5000 || met.second < 500 || met.lost < 100 || met.cut < 500 {
		t.Errorf("the runs met too little: %+v", met)
	}
}

// P10.4: each node has a way that leads to it from the Entry, or from a node ahead of it in order: the Entry leads to none but node 0, if there is one.
func TestWaysFromAhead(t *testing.T) {
	eachCut(t, func(f []api.Ins, cut []bool) {
		s := built(t, f, cut)
		if len(s.Nodes) > 0 && s.Entry.To != 0 || len(s.Nodes) == 0 && s.Entry.To != -1 {
			t.Fatalf("%v, cut %v: the Entry leads to %d of %d", f, cut, s.Entry.To, len(s.Nodes))
		}
		met := 0
		reach := func(n int) {
			if n > met {
				t.Fatalf("%v, cut %v: to node %d ahead of %d", f, cut, n, met)
			}
			if n == met {
				met++
			}
		}
		reach(s.Entry.To)
		for n, x := range s.Nodes {
			if n >= met {
				t.Fatalf("%v, cut %v: no way from ahead leads to node %d", f, cut, n)
			}
			for _, o := range x.Outs {
				reach(o.To)
			}
		}
		for n, l := range skel.Ways(s) {
			if len(l) == 0 || l[0].From >= n {
				t.Fatalf("%v, cut %v: to node %d lead %v", f, cut, n, l)
			}
		}
	})
}

// P10.1: what is there of nodes: places of the function that do more than move, each once; as many ways as they may have; tables that are good.
func TestNodesAreRight(t *testing.T) {
	eachCut(t, func(f []api.Ins, cut []bool) {
		s := built(t, f, cut)
		met := map[int]bool{}
		outs := []skel.Out{s.Entry}
		for _, x := range s.Nodes {
			if x.At < 0 || x.At >= len(f) || met[x.At] || onlyMoves(f[x.At]) || len(x.Outs) != len(begins(f, cut, x.At)) {
				t.Fatalf("%v, cut %v: %v", f, cut, x)
			}
			met[x.At] = true
			outs = append(outs, x.Outs...)
		}
		for _, o := range outs {
			if o.To < -1 || o.To >= len(s.Nodes) || !env.Good(o.T) || o.To == -1 && o.T != env.New() {
				t.Fatalf("%v, cut %v: %v", f, cut, o)
			}
		}
	})
}

// clone answers a skeleton in memory of its own.
func clone(s skel.Skeleton) skel.Skeleton {
	s.Nodes = slices.Clone(s.Nodes)
	for n, x := range s.Nodes {
		s.Nodes[n].Outs = slices.Clone(x.Outs)
	}
	return s
}

// fill writes into all the room of a list, its spare room included.
func fill[T any](l []T, v T) {
	room := l[:cap(l)]
	for i := range room {
		room[i] = v
	}
}

// scrawl writes into all the room of a skeleton.
func scrawl(s skel.Skeleton) {
	for _, x := range s.Nodes {
		fill(x.Outs, skel.Out{To: -77})
	}
	fill(s.Nodes, skel.Node{At: -77, Outs: []skel.Out{{To: -78}}})
}

// R3: no argument is changed, nor what stands behind its end.
func TestArgumentsStay(t *testing.T) {
	ask := func(f []api.Ins, cut []bool) {
		t.Helper()
		room := slices.Concat(f, slices.Repeat([]api.Ins{{Op: 77, D: 1, A: 2, B: 3, N: 4, To: 5}}, 6))
		more := slices.Concat(cut, []bool{true, false, true, true})
		wasF, wasC := slices.Clone(room), slices.Clone(more)
		s, e := skel.Build(room[:len(f)], more[:len(cut)])
		if !slices.Equal(room, wasF) || !slices.Equal(more, wasC) {
			t.Fatalf("%v, cut %v: changed", f, cut)
		}
		if w, we := skel.Build(f, cut); !same(s, w) || e != we {
			t.Fatalf("%v, cut %v: %v, and with more room %v", f, cut, w, s)
		}
	}
	eachCut(t, ask)
	for _, f := range wrongFunctions() {
		for _, cut := range cuts(min(len(f), 300)) {
			ask(f, cut)
		}
	}
}

// R3: a skeleton stays as it is when its ways are asked for, what stands behind its lists' ends, too; and that does not count.
func TestSkeletonsStay(t *testing.T) {
	eachSkeleton(t, func(s skel.Skeleton) {
		var rooms [][]skel.Out
		nodes := slices.Concat(s.Nodes, []skel.Node{node(-7, to(0)), node(-8, to(0), to(1))})
		for n, x := range s.Nodes {
			room := slices.Concat(x.Outs, []skel.Out{to(0), to(-9)})
			rooms = append(rooms, slices.Clone(room))
			nodes[n].Outs = room[:len(x.Outs)]
		}
		was := clone(laid(s.Entry, nodes...))
		if ways := skel.Ways(laid(s.Entry, nodes[:len(s.Nodes)]...)); !sameWays(ways, workedWays(s)) {
			t.Fatalf("%v: %v with more room", s, ways)
		}
		if !same(laid(s.Entry, nodes...), was) {
			t.Fatalf("%v: changed to %v", s, nodes)
		}
		for n, room := range rooms {
			if now := nodes[n].Outs[:len(room)]; !slices.Equal(now, room) {
				t.Fatalf("%v: behind node %d's ways changed to %v", s, n, now)
			}
		}
	})
}

// R3: what is answered shares no memory with an argument, nor with another answer: whatever is changed, all others stay.
func TestSkeletonsAreNew(t *testing.T) {
	eachCut(t, func(f []api.Ins, cut []bool) {
		list, flags := slices.Clone(f), slices.Clone(cut)
		s, want := built(t, list, flags), built(t, f, cut)
		kept := clone(want)
		fill(list, api.Ins{Op: api.Const, D: 5, N: 99})
		for i := range flags {
			flags[i] = !flags[i]
		}
		if !same(s, kept) {
			t.Fatalf("%v, cut %v: changed with its arguments", f, cut)
		}
		scrawl(s)
		// The one that was there is asked ahead of a call, which might mend it.
		if !same(want, kept) {
			t.Fatalf("%v, cut %v: changed with another answer", f, cut)
		}
		if again := built(t, f, cut); !same(again, kept) {
			t.Fatalf("%v, cut %v: %v, and then %v", f, cut, kept, again)
		}
	})
}

// R3: what was answered stays as it is, whatever is asked behind it.
func TestAnswersStay(t *testing.T) {
	var last, was skel.Skeleton
	var ways, wereWays [][]api.Edge
	eachSkeleton(t, func(s skel.Skeleton) {
		more := skel.Ways(s)
		if !same(last, was) || !sameWays(ways, wereWays) {
			t.Fatalf("%v: changed by another call", was)
		}
		last, was = s, clone(s)
		ways, wereWays = more, workedWays(s)
	})
}

// apart: has each list room of its own, spare room too? All of it gets the list's mark, and must have that when all others have theirs.
func apart[T comparable](lists [][]T, mark func(n int) T) bool {
	for n, l := range lists {
		fill(l, mark(n))
	}
	for n, l := range lists {
		for _, x := range l[:cap(l)] {
			if x != mark(n) {
				return false
			}
		}
	}
	return true
}

// R3: no two lists of one answer share any room.
func TestListsAreApart(t *testing.T) {
	eachCut(t, func(f []api.Ins, cut []bool) {
		var lists [][]skel.Out
		for _, x := range built(t, f, cut).Nodes {
			lists = append(lists, x.Outs)
		}
		if !apart(lists, func(n int) skel.Out { return skel.Out{To: 1000 + n} }) {
			t.Fatalf("%v, cut %v: two nodes' ways share room", f, cut)
		}
	})
	eachSkeleton(t, func(s skel.Skeleton) {
		if !apart(skel.Ways(s), func(n int) api.Edge { return edge(1000+n, 0) }) {
			t.Fatalf("%v: the ways to two nodes share room", s)
		}
	})
}

// R3: what Ways answers shares no memory with the skeleton, nor with another answer.
func TestWaysAreNew(t *testing.T) {
	eachSkeleton(t, func(s skel.Skeleton) {
		mine, want := clone(s), workedWays(s)
		ways, other := skel.Ways(mine), skel.Ways(mine)
		scrawl(mine)
		if !sameWays(ways, want) {
			t.Fatalf("%v: changed with the skeleton", s)
		}
		for _, l := range ways {
			fill(l, edge(-77, -77))
		}
		fill(ways, edges(edge(-78, -78)))
		if !sameWays(other, want) {
			t.Fatalf("%v: changed with another answer", s)
		}
		if !sameWays(skel.Ways(s), want) {
			t.Fatalf("%v: changed with another answer", s)
		}
	})
}

// R3, R4: what was handed in is not kept: another function in the same memory is another one, and an answer hangs on nothing ahead of it.
func TestArgumentsAreNotKept(t *testing.T) {
	list, flags := make([]api.Ins, api.MaxIns), make([]bool, api.MaxIns)
	for seed := range uint64(300) {
		f := made(1+int(seed)%60, seed+1000)
		n := copy(list, f)
		for k, cut := range cuts(n) {
			m := copy(flags, cut)
			s := built(t, list[:n], flags[:m])
			if !same(s, worked(f, cut[:m])) || !sameWays(skel.Ways(s), workedWays(s)) {
				t.Fatalf("%v, cut %v: %v", f, cut, s)
			}
			skel.Build(nil, flags)
			skel.Build(list, nil)
			skel.Ways(odd(uint64(k)))
		}
	}
}

// R3: a nil list and an empty one are the same.
func TestNilAndEmpty(t *testing.T) {
	each(t, func(f []api.Ins) {
		if s, w := built(t, f, nil), built(t, f, []bool{}); !same(s, w) {
			t.Fatalf("%v: %v, and %v", f, s, w)
		}
	})
	if s, e := skel.Build([]api.Ins{}, []bool{}); e != api.ErrArg || !same(s, skel.Skeleton{}) {
		t.Errorf("of no instruction: %v, %d", s, e)
	}
	nils := skel.Skeleton{Nodes: []skel.Node{{}, {}}}
	empty := laid(skel.Out{}, node(0, []skel.Out{}...), node(0, []skel.Out{}...))
	if !sameWays(skel.Ways(nils), skel.Ways(empty)) || len(skel.Ways(nils)) != 2 {
		t.Errorf("%v, and %v", skel.Ways(nils), skel.Ways(empty))
	}
}

// R4: the same again, each time.
func TestSameAnswerAgain(t *testing.T) {
	eachCut(t, func(f []api.Ins, cut []bool) {
		s := built(t, f, cut)
		ways := skel.Ways(s)
		for range 3 {
			if again := built(t, slices.Clone(f), slices.Clone(cut)); !same(again, s) || !sameWays(skel.Ways(again), ways) {
				t.Fatalf("%v, cut %v: %v, and then %v", f, cut, s, again)
			}
		}
	})
}

// R1: no call panics, and each ends, whatever it is given.
func TestNoPanic(t *testing.T) {
	far := []int{-1, -200, math.MinInt, math.MinInt32, math.MaxInt32, math.MaxInt, 0, 1, 2, 3, 7, 8, 23, 24, 199, 200, 201}
	ask := func(f []api.Ins) {
		wrong := !asm.Right(f)
		for _, cut := range cuts(len(f)) {
			s, e := skel.Build(f, cut)
			if wrong && (e != api.ErrArg || !same(s, skel.Skeleton{})) || !wrong && (e != api.OK || !same(s, worked(f, cut))) {
				t.Fatalf("%v, cut %v: %v, %d", f, cut, s, e)
			}
			skel.Ways(s)
		}
	}
	for op := -2; op <= 21; op++ {
		for i, v := range far {
			for _, x := range []api.Ins{
				{Op: op, D: v}, {Op: op, A: v}, {Op: op, B: v}, {Op: op, N: int64(v)}, {Op: op, To: v}, {Op: op, D: v, A: v, B: v, N: int64(v), To: v},
				{Op: op, D: v, A: far[len(far)-1-i]},
			} {
				ask([]api.Ins{x})
				ask([]api.Ins{x, {Op: api.Ret}})
				ask([]api.Ins{x, {Op: api.Jump}})
				ask([]api.Ins{{Op: api.Jump, To: 1}, x, {Op: api.Ret}})
			}
		}
	}
	for _, n := range far {
		for _, m := range far {
			lead(t, n, laid(to(-1), node(m, to(-1))), nil)
			skel.Ways(skel.Skeleton{Entry: skel.Out{To: n}, Nodes: []skel.Node{{At: m, Outs: []skel.Out{{To: m}, {To: n}}}, {At: n}}})
		}
	}
}
