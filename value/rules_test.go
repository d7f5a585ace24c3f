package value_test

import (
	"math"
	"slices"
	"testing"

	"joinery/api"
	"joinery/asm"
	"joinery/env"
	"joinery/skel"
	"joinery/value"
)

// answers are what all calls answer of a function and a skeleton.
type answers struct {
	by    []api.Src
	all   [][][]api.Src
	facts [][]api.Src
	cut   []bool
	e     api.Errno
}

// edges are some ways of a skeleton, and some that are not there.
func edges(s skel.Skeleton) []api.Edge {
	last := len(s.Nodes) - 1
	return []api.Edge{entry(), edge(0, 0), edge(0, 1), edge(last, 0), edge(last/2, 0), edge(last/2, 1), edge(-2, 0), edge(last+1, 0), edge(-1, 1)}
}

func ask(f []api.Ins, s skel.Skeleton) answers {
	var a answers
	for _, e := range edges(s) {
		for _, l := range []int{1, 8, 24} {
			a.by = append(a.by, value.By(f, s, e, l))
		}
	}
	a.all, a.facts = value.All(f, s), value.Facts(f, s)
	a.cut, a.e = value.Cut(f)
	return a
}

func sameAnswers(a, b answers) bool {
	return slices.Equal(a.by, b.by) && sameAll(a.all, b.all) && sameFacts(a.facts, b.facts) && slices.Equal(a.cut, b.cut) && a.e == b.e
}

// some hands over functions, right and wrong, with skeletons of them and of others.
func some(t *testing.T, hand func(f []api.Ins, s skel.Skeleton)) {
	t.Helper()
	i := 0
	each(t, func(f []api.Ins) {
		i++
		if i%4 != 0 {
			return
		}
		s := built(t, f, cuts(len(f))[i/4%6])
		hand(f, s)
		if i%5 == 0 {
			hand(f, skel.Skeleton{Entry: s.Entry})
		}
	})
	s := built(t, parsed(t, "zero r0 3\nload r1 r2\njump 3\nmov r3 r1\nret r3\n"), nil)
	for _, f := range wrongFunctions() {
		hand(f, s)
	}
}

// R3: no argument is changed, nor what stands behind its lists' ends; and that does not count.
func TestArgumentsStay(t *testing.T) {
	some(t, func(f []api.Ins, s skel.Skeleton) {
		room := slices.Concat(f, slices.Repeat([]api.Ins{{Op: 77, D: 1, A: 2, B: 3, N: 4, To: 5}}, 6))
		wasF := slices.Clone(room)
		more := clone(s)
		more.Nodes = append(more.Nodes, skel.Node{At: -7, Outs: []skel.Out{{To: 3}}}, skel.Node{At: -8})
		var rooms [][]skel.Out
		for n, x := range more.Nodes {
			outs := slices.Concat(x.Outs, []skel.Out{{To: -5}, {To: -6, T: env.New()}})
			rooms = append(rooms, outs)
			more.Nodes[n].Outs = outs[:len(x.Outs)]
		}
		wasS := clone(more)
		var wereOuts [][]skel.Out
		for _, outs := range rooms {
			wereOuts = append(wereOuts, slices.Clone(outs))
		}
		handed := skel.Skeleton{Entry: s.Entry, Nodes: more.Nodes[:len(s.Nodes)]}
		a := ask(room[:len(f)], handed)
		if !slices.Equal(room, wasF) {
			t.Fatalf("%v: changed", f)
		}
		if !same(more, wasS) {
			t.Fatalf("%v: changed to %v", wasS, more)
		}
		for n, outs := range rooms {
			if !slices.Equal(outs, wereOuts[n]) {
				t.Fatalf("%v: node %d's ways, or what is behind them, changed", s, n)
			}
		}
		if b := ask(f, s); !sameAnswers(a, b) {
			t.Fatalf("%v, %v: %v, and with more room %v", f, s, b, a)
		}
	})
}

// fill writes into all the room of a list, its spare room included.
func fill[T any](l []T, v T) {
	room := l[:cap(l)]
	for i := range room {
		room[i] = v
	}
}

// scrawl writes into all the room of answers.
func scrawl(a answers) {
	odd := api.Src{Kind: -77, N: -77}
	for _, node := range a.all {
		for _, way := range node {
			fill(way, odd)
		}
		fill(node, []api.Src{odd})
	}
	fill(a.all, [][]api.Src{{odd}})
	for _, l := range a.facts {
		fill(l, odd)
	}
	fill(a.facts, []api.Src{odd})
	for i := range a.cut[:cap(a.cut)] {
		a.cut[:cap(a.cut)][i] = !a.cut[:cap(a.cut)][i]
	}
}

// copied answers answers in memory of their own.
func copied(a answers) answers {
	a.by, a.cut, a.all, a.facts = slices.Clone(a.by), slices.Clone(a.cut), slices.Clone(a.all), slices.Clone(a.facts)
	for n, node := range a.all {
		a.all[n] = slices.Clone(node)
		for w, way := range node {
			a.all[n][w] = slices.Clone(way)
		}
	}
	for n, l := range a.facts {
		a.facts[n] = slices.Clone(l)
	}
	return a
}

// R3: what is answered shares no memory with what was handed in, nor with another answer: whatever is changed, all others stay.
func TestAnswersAreNew(t *testing.T) {
	some(t, func(f []api.Ins, s skel.Skeleton) {
		list, mine := slices.Clone(f), clone(s)
		a, other := ask(list, mine), ask(f, s)
		kept := copied(other)
		fill(list, api.Ins{Op: api.Const, D: 5, N: 99})
		for _, x := range mine.Nodes {
			fill(x.Outs, skel.Out{To: -77})
		}
		fill(mine.Nodes, skel.Node{At: -77})
		if !sameAnswers(a, kept) {
			t.Fatalf("%v, %v: changed with its arguments", f, s)
		}
		scrawl(a)
		// The one that was there is asked ahead of a call, which might mend it.
		if !sameAnswers(other, kept) {
			t.Fatalf("%v, %v: changed with another answer", f, s)
		}
		if again := ask(f, s); !sameAnswers(again, kept) {
			t.Fatalf("%v, %v: %v, and then %v", f, s, kept, again)
		}
	})
}

// apart: has each list room of its own, spare room too? All of it gets the list's mark, and must have that when all others have theirs.
func apart(lists [][]api.Src) bool {
	for n, l := range lists {
		fill(l, num(int64(1000+n)))
	}
	for n, l := range lists {
		for _, x := range l[:cap(l)] {
			if x != num(int64(1000+n)) {
				return false
			}
		}
	}
	return true
}

// R3: no two lists of one answer share any room.
func TestListsAreApart(t *testing.T) {
	some(t, func(f []api.Ins, s skel.Skeleton) {
		if !apart(value.Facts(f, s)) {
			t.Fatalf("%v, %v: the facts of two nodes share room", f, s)
		}
		all := value.All(f, s)
		var lists [][]api.Src
		for _, node := range all {
			lists = append(lists, node...)
		}
		if !apart(lists) {
			t.Fatalf("%v, %v: two ways' sources share room", f, s)
		}
		// And those of the ways themselves: each node's gets a mark.
		for n, node := range all {
			fill(node, []api.Src{num(int64(2000 + n))})
		}
		for n, node := range all {
			for _, way := range node[:cap(node)] {
				if way[0] != num(int64(2000+n)) {
					t.Fatalf("%v, %v: two nodes' ways share room", f, s)
				}
			}
		}
	})
}

// R3, R4: what was handed in is not kept: another function in the same memory is another one, and an answer hangs on nothing ahead of it.
func TestArgumentsAreNotKept(t *testing.T) {
	list := make([]api.Ins, api.MaxIns)
	var nodes []skel.Node
	var last, kept answers
	for seed := range uint64(300) {
		f := randomly(1+int(seed)%40, seed+5000)
		if seed%2 == 0 {
			f = inParts(1+int(seed)%6, seed+5000)
		}
		n := copy(list, f)
		s := built(t, f, nil)
		nodes = append(nodes[:0], s.Nodes...)
		a := ask(list[:n], skel.Skeleton{Entry: s.Entry, Nodes: nodes})
		if want, _ := workedCut(f); !sameAll(a.all, workedAll(f, s)) || !sameFacts(a.facts, workedFacts(f, s)) || !slices.Equal(a.cut, want) {
			t.Fatalf("%v, %v: %v", f, s, a)
		}
		if !sameAnswers(last, kept) {
			t.Fatalf("%v: changed by another call", kept)
		}
		last, kept = a, copied(a)
	}
}

// R3: a nil list and an empty one are the same.
func TestNilAndEmpty(t *testing.T) {
	f := parsed(t, "jump 0\n")
	s := built(t, f, nil)
	for _, nodes := range [][]skel.Node{nil, {}} {
		s.Nodes = nodes
		if a := ask(f, s); len(a.all) != 0 || len(a.facts) != 0 || !slices.Equal(a.cut, []bool{false}) || a.e != 0 {
			t.Errorf("%v: %v", s, a)
		}
	}
	// A ret's ways.
	f = parsed(t, "const r1 5\nret r1\n")
	s = built(t, f, nil)
	for _, outs := range [][]skel.Out{nil, {}} {
		s.Nodes[0].Outs = outs
		if facts := value.Facts(f, s); len(facts) != 1 || facts[0][1] != num(5) {
			t.Errorf("%v: %v", s, facts)
		}
	}
	if a, b := ask(nil, skel.Skeleton{}), ask([]api.Ins{}, skel.Skeleton{Nodes: []skel.Node{}}); !sameAnswers(a, b) || a.e != api.ErrArg {
		t.Errorf("%v, and %v", a, b)
	}
}

// R4: the same again, each time.
func TestSameAnswerAgain(t *testing.T) {
	some(t, func(f []api.Ins, s skel.Skeleton) {
		a := ask(f, s)
		for range 2 {
			if b := ask(slices.Clone(f), clone(s)); !sameAnswers(a, b) {
				t.Fatalf("%v, %v: %v, and then %v", f, s, a, b)
			}
		}
	})
}

// R1: no call panics, and each ends, whatever it is given.
func TestNoPanic(t *testing.T) {
	far := []int{-1, math.MinInt, math.MinInt32, math.MaxInt, 0, 1, 2, 8, 23, 24, 200}
	odd := []skel.Skeleton{{}, {Entry: skel.Out{To: -1, T: env.New()}}, {Entry: skel.Out{T: env.New()}, Nodes: []skel.Node{{}}}}
	for _, n := range far {
		for _, m := range far {
			o := skel.Out{To: n, T: env.Table{8: env.Was{Loc: m}, 3: env.Is{N: int64(n)}, 4: &env.Is{}, 5: listed{n}, 6: bad{}}}
			odd = append(odd, skel.Skeleton{Entry: o, Nodes: []skel.Node{{At: m, Outs: []skel.Out{o, {To: m}, o}}, {At: n}, {At: m, Outs: []skel.Out{{To: 1, T: env.New()}}}}})
		}
	}
	for op := -2; op <= 21; op++ {
		for i, v := range far {
			for _, x := range []api.Ins{{Op: op, D: v}, {Op: op, A: v}, {Op: op, B: v}, {Op: op, N: int64(v)}, {Op: op, To: v}, {Op: op, D: v, A: v, B: v, N: int64(v), To: v}} {
				for _, f := range [][]api.Ins{{x}, {x, {Op: api.Ret}}, {{Op: api.Jump, To: 1}, x, {Op: api.Ret}}} {
					hold(t, f)
					tells(t, "odd", f, odd[(i*31+op+2)%len(odd)], couldBe(f, odd[(i*31+op+2)%len(odd)]))
				}
			}
		}
	}
	f := parsed(t, "zero r0 2\nadd r1 r1 r1\nret r1\n")
	for _, s := range odd {
		tells(t, "odd", f, s, couldBe(f, s))
		for _, n := range far {
			for _, k := range far {
				for _, l := range far {
					value.By(f, s, edge(n, k), l)
				}
			}
		}
	}
}

// hold holds what all calls answer of a function, and its own skeleton, against the chapter's Words.
func hold(t *testing.T, f []api.Ins) {
	t.Helper()
	cut, e := value.Cut(f)
	s, _ := skel.Build(f, nil)
	if !asm.Right(f) {
		if e != api.ErrArg || len(cut) != 0 {
			t.Fatalf("%v: %v, %d", f, cut, e)
		}
		return
	}
	if want, _ := workedCut(f); e != api.OK || !slices.Equal(cut, want) {
		t.Fatalf("%v: %v, %d; it ought to be %v", f, cut, e, want)
	}
	tells(t, "built", f, s, true)
}
