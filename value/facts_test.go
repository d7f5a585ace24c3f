package value_test

import (
	"math"
	"slices"
	"testing"

	"joinery/api"
	"joinery/skel"
	"joinery/value"
)

// still is what places have for facts where nothing was ever moved or set: registers their own values, slots nothing.
func still(l int) api.Src {
	if l < 8 {
		return val(l)
	}
	return none()
}

// factsAre: are those the facts of each node, where they aren't those of places that nothing was moved to?
func factsAre(t *testing.T, f []api.Ins, cut []bool, want ...srcs) {
	t.Helper()
	facts := value.Facts(f, built(t, f, cut))
	if len(facts) != len(want) {
		t.Fatalf("%v, cut %v: facts of %d nodes; there ought to be %d", f, cut, len(facts), len(want))
	}
	for n, l := range facts {
		if w := has(still, want[n]); !slices.Equal(l, w) {
			t.Errorf("%v, cut %v: node %d has %v; it ought to be %v", f, cut, n, l, w)
		}
	}
}

// factsOf is that of a text, with no place cut.
func factsOf(t *testing.T, text string, want ...srcs) {
	t.Helper()
	factsAre(t, parsed(t, text), nil, want...)
}

// keeps: is what a place has by a way what is claimed, or the value of a place of which that is claimed, too?
func keeps(claim, x api.Src, there func(l int64) bool) bool {
	return x == claim || x.Kind == 4 && there(x.N)
}

// workedFacts is what the chapter's Words say of a skeleton that was built: of each number, and of nothing, is first claimed that all places of all nodes have it, and then each claim is taken back that some way contradicts, till none is any more.
func workedFacts(f []api.Ins, s skel.Skeleton) [][]api.Src {
	all, ways := workedAll(f, s), skel.Ways(s)
	facts := make([][]api.Src, len(s.Nodes))
	for n := range facts {
		facts[n] = has(val, nil)
	}
	for claim := range claims(all) {
		held := make([][24]bool, len(s.Nodes))
		for n := range held {
			for l := range held[n] {
				held[n][l] = true
			}
		}
		for takeBack(claim, all, ways, held) {
		}
		for n := range held {
			for l, so := range held[n] {
				if so {
					facts[n][l] = claim
				}
			}
		}
	}
	return facts
}

// claims are nothing, and all numbers that places have by some way.
func claims(all [][][]api.Src) map[api.Src]bool {
	l := map[api.Src]bool{none(): true}
	for _, node := range all {
		for _, way := range node {
			for _, x := range way {
				if x.Kind == 2 {
					l[x] = true
				}
			}
		}
	}
	return l
}

// takeBack takes back all claims that some way contradicts now; false, if there is none.
func takeBack(claim api.Src, all [][][]api.Src, ways [][]api.Edge, held [][24]bool) bool {
	more := false
	for n := range held {
		for l, so := range held[n] {
			for w, e := range ways[n] {
				if so && !keeps(claim, all[n][w][l], func(l int64) bool { return held[e.From][l] }) {
					held[n][l] = false
					more = true
				}
			}
		}
	}
	return more
}

// P11.2: the chapter's example.
func TestFactsExample(t *testing.T) {
	factsOf(t, "const r1 5\ncall r2 r0 1\nadd r3 r1 r2\nret r3\n", srcs{1: num(5)}, srcs{1: num(5)}, srcs{1: num(5)})
}

// P11.2: of places to which nothing was moved: what registers had at the beginning is no number, and slots have nothing.
func TestFactsOfNothingMoved(t *testing.T) {
	factsOf(t, "ret r0\n", nil)
	factsOf(t, "add r1 r2 r3\nret r1\n", nil, nil)
	factsOf(t, "zero r0 2\nret r1\nret r2\n", nil, nil, nil)
	factsOf(t, "store r0 r1\njump 0\n", nil)
	factsOf(t, "mov r1 r2\nret r1\n", nil)
	factsOf(t, "swap r1 r2\nmov r3 r3\nswap s1 s2\nret r1\n", nil)
}

// ends are numbers at both ends of 64 bits, and between them.
func ends() []int64 {
	return []int64{0, 1, -1, 2, 5, 6, -5, 24, 255, 256, math.MaxInt32, math.MinInt32, 1 << 31, 1 << 32, -1 << 32, 1<<32 + 5, 1<<52 + 1, 1 << 53, 1<<53 + 1, 1 << 62, math.MaxInt64 - 1, math.MaxInt64, math.MinInt64, math.MinInt64 + 1}
}

// P11.2: a number by one way, in each place, at both ends of 64 bits.
func TestFactsNumberByOneWay(t *testing.T) {
	for l := range 24 {
		for _, n := range ends() {
			c := api.Ins{Op: api.Const, D: l, N: n}
			has := srcs{l: num(n)}
			factsAre(t, []api.Ins{c, {Op: api.Ret}}, nil, has)
			factsAre(t, []api.Ins{{Op: api.Store}, c, {Op: api.Ret}}, nil, nil, has)
			factsAre(t, []api.Ins{c, {Op: api.Zero, To: 2}, {Op: api.Store}, {Op: api.Ret}}, nil, has, has, has)
		}
	}
	factsOf(t, "const r1 5\nmov s3 r1\nconst r1 6\nswap r1 r2\nret r1\n", srcs{2: num(6), 11: num(5)})
}

// P11.2: what an instruction sets is no number behind it, even where it was one.
func TestFactsBehindSet(t *testing.T) {
	for _, x := range ones() {
		behind := srcs{1: val(1), 9: num(7)}
		if x.Op == api.Store {
			behind[1] = num(5)
		}
		factsAre(t, []api.Ins{{Op: api.Const, D: 1, N: 5}, {Op: api.Const, D: 9, N: 7}, x, {Op: api.Ret}}, nil, srcs{1: num(5), 9: num(7)}, behind)
		// Where it had nothing, too.
		f := []api.Ins{{Op: api.Mov, D: 1, A: 8}, x, {Op: api.Mov, D: 10, A: 1}, {Op: api.Ret}}
		if x.Op == api.Store {
			factsAre(t, f, nil, srcs{1: none()}, srcs{1: none()})
		} else {
			factsAre(t, f, nil, srcs{1: none()}, srcs{1: val(1), 10: val(10)})
		}
		// And a number that is moved there behind it.
		factsAre(t, []api.Ins{x, {Op: api.Const, D: 1, N: 3}, {Op: api.Ret}}, nil, nil, srcs{1: num(3)})
	}
}

// P11.2: by two ways with one number, and with two.
func TestFactsNumberByTwoWays(t *testing.T) {
	for l := range 24 {
		for _, n := range ends() {
			for _, m := range ends() {
				last := srcs{l: val(l)}
				if n == m {
					last[l] = num(n)
				}
				factsAre(t, []api.Ins{{Op: api.Zero, To: 3}, {Op: api.Const, D: l, N: n}, {Op: api.Jump, To: 4}, {Op: api.Const, D: l, N: m}, {Op: api.Ret}}, nil, nil, last)
			}
		}
	}
	// Of three ways each one counts.
	for _, x := range []struct{ a, b, c int64 }{{5, 5, 5}, {6, 5, 5}, {5, 6, 5}, {5, 5, 6}, {5, 6, 7}, {0, 0, 1}, {1, 0, 0}} {
		last := srcs{1: val(1)}
		if x.a == x.b && x.b == x.c {
			last[1] = num(x.a)
		}
		factsAre(t, []api.Ins{
			{Op: api.Zero, To: 4}, {Op: api.Zero, To: 6},
			{Op: api.Const, D: 1, N: x.a}, {Op: api.Jump, To: 7},
			{Op: api.Const, D: 1, N: x.b}, {Op: api.Jump, To: 7},
			{Op: api.Const, D: 1, N: x.c}, {Op: api.Ret},
		}, nil, nil, last, nil)
	}
}

// P11.2: a number by one way, and by another the value of a place that has that fact, or another one, or none.
func TestFactsNumberAndValue(t *testing.T) {
	five := srcs{1: num(5)}
	factsOf(t, "const r1 5\nzero r0 3\nconst r1 5\nret r1\n", five, five)
	factsOf(t, "const r1 5\nzero r0 3\nconst r1 6\nret r1\n", five, srcs{1: val(1)})
	factsOf(t, "const r1 0\nzero r0 3\nconst r1 5\nret r1\n", srcs{1: num(0)}, srcs{1: val(1)})
	factsOf(t, "zero r0 2\nconst r1 5\nret r1\n", nil, nil)
	// Of another place.
	factsOf(t, "const r2 5\nzero r0 4\nconst r1 5\njump 5\nmov r1 r2\nret r1\n", srcs{2: num(5)}, srcs{1: num(5), 2: num(5)})
	factsOf(t, "const r2 6\nzero r0 4\nconst r1 5\njump 5\nmov r1 r2\nret r1\n", srcs{2: num(6)}, srcs{1: val(1), 2: num(6)})
	// By both ways values of places, at two nodes.
	factsOf(t, "const r1 5\nmov s1 r1\nzero r0 5\nstore r0 r0\nmov r1 s1\nret r1\n", srcs{1: num(5), 9: num(5)}, srcs{1: num(5), 9: num(5)}, srcs{1: num(5), 9: num(5)})
	factsOf(t, "const r1 5\nconst s1 6\nzero r0 5\nstore r0 r0\nmov r1 s1\nret r1\n", srcs{1: num(5), 9: num(6)}, srcs{1: val(1), 9: num(6)}, srcs{1: num(5), 9: num(6)})
	// By another what a node came to.
	factsOf(t, "const r1 5\nzero r0 3\ncall r1 r0 1\nret r1\n", five, srcs{1: val(1)}, five)
}

// P11.2: nothing by all ways.
func TestFactsNothing(t *testing.T) {
	factsOf(t, "mov r1 s0\nret r1\n", srcs{1: none()})
	factsOf(t, "swap r1 s0\nret r1\n", srcs{1: none(), 8: val(8)})
	factsOf(t, "mov r1 s0\nzero r0 3\nmov r1 s15\nret r1\n", srcs{1: none()}, srcs{1: none()})
	factsOf(t, "zero r0 3\nmov r1 s0\njump 4\nmov r1 s1\nret r1\n", nil, srcs{1: none()})
	factsOf(t, "mov r1 s0\nstore r0 r0\nmov r2 r1\nmov s0 r2\nret r1\n", srcs{1: none()}, srcs{1: none(), 2: none()})
	factsOf(t, "const s0 5\nstore r0 r0\nmov s0 s1\nret r1\n", srcs{8: num(5)}, nil)
	for r := range 8 {
		for s := 8; s < 24; s++ {
			factsAre(t, []api.Ins{{Op: api.Mov, D: r, A: s}, {Op: api.Ret}}, nil, srcs{r: none()})
		}
	}
}

// P11.2: nothing by one way, and by another a number, a value, what a node came to, what a register had.
func TestFactsNothingAndMore(t *testing.T) {
	for l := 8; l < 24; l++ {
		for _, n := range []int64{0, 1, -1, math.MinInt64} {
			factsAre(t, []api.Ins{{Op: api.Zero, To: 2}, {Op: api.Const, D: l, N: n}, {Op: api.Ret}}, nil, nil, srcs{l: val(l)})
			factsAre(t, []api.Ins{{Op: api.Zero, To: 3}, {Op: api.Mov, D: l, A: l}, {Op: api.Jump, To: 4}, {Op: api.Const, D: l, N: n}, {Op: api.Ret}}, nil, nil, srcs{l: val(l)})
		}
	}
	factsOf(t, "zero r0 2\nmov s0 r1\nret r1\n", nil, srcs{8: val(8)})
	factsOf(t, "zero r0 2\nmov r1 s0\nret r1\n", nil, nil)
	factsOf(t, "mov r1 s0\nzero r0 3\ncall r1 r0 2\nret r1\n", srcs{1: none()}, nil, srcs{1: none()})
	factsOf(t, "zero r0 2\njump 0\nmov s0 r1\njump 0\n", srcs{8: val(8)})
	// Behind a place of which that is so, it is so too, till a number is moved there.
	factsOf(t, "zero r0 2\nconst s0 1\nstore r0 r0\nmov r1 s0\nstore r0 r0\nconst s0 4\nret r1\n", nil, srcs{8: val(8)}, srcs{8: val(8)}, srcs{8: num(4)})
}

// P11.2: places that have facts of one another in a circle keep them.
func TestFactsInCircles(t *testing.T) {
	five := srcs{1: num(5)}
	// A place that stays, and one that is moved to itself.
	factsOf(t, "const r1 5\nzero r0 3\njump 1\nret r1\n", five, five)
	factsOf(t, "const r1 5\nzero r0 4\nmov r1 r1\njump 1\nret r1\n", five, five)
	factsOf(t, "const r1 5\nadd r2 r1 r1\nstore r1 r2\njump 1\n", five, five)
	// One that gets its own number again.
	factsOf(t, "const r1 5\nzero r0 4\nconst r1 5\njump 1\nret r1\n", five, five)
	// One that is put into a slot, and back.
	factsOf(t, "const r1 5\nzero r0 6\nmov s0 r1\nconst r1 9\nmov r1 s0\njump 1\nret r1\n", srcs{1: num(5), 8: val(8)}, srcs{1: num(5), 8: val(8)})
	factsOf(t, "const s0 5\nmov r1 s0\nstore r1 r2\nmov s0 r1\nconst r1 5\njump 2\n", srcs{1: num(5), 8: num(5)})
	// Two that are swapped, with one number and with unlike ones.
	both := srcs{1: num(5), 2: num(5)}
	factsOf(t, "const r1 5\nconst r2 5\nzero r0 5\nswap r1 r2\njump 2\nret r1\n", both, both)
	factsOf(t, "const r1 5\nconst r2 6\nzero r0 5\nswap r1 r2\njump 2\nret r1\n", nil, nil)
	factsOf(t, "const r1 5\nzero r0 4\nswap r1 r2\njump 1\nret r1\n", nil, nil)
	// Three that go round.
	factsOf(t, "const s0 0\nconst s1 0\nconst s2 0\nstore r0 r1\nswap s0 s1\nswap s1 s2\njump 3\n", srcs{8: num(0), 9: num(0), 10: num(0)})
	for odd := range 3 {
		f := parsed(t, "const s0 0\nconst s1 0\nconst s2 0\nstore r0 r1\nswap s0 s1\nswap s1 s2\njump 3\n")
		f[odd].N = 1
		factsAre(t, f, nil, srcs{8: val(8), 9: val(9), 10: val(10)})
	}
	// Slots that have nothing, and are moved to one another.
	factsOf(t, "store r0 r1\nswap s0 s1\nmov s2 s0\njump 0\n", nil)
	factsOf(t, "mov r1 s0\nstore r0 r2\nswap r1 s1\njump 1\n", srcs{1: none()})
	// Circles of several nodes, and two with one node in both.
	factsOf(t, "const r1 5\nadd r2 r2 r2\nmov s0 r1\nsub r2 r2 r2\nmov r1 s0\nmul r2 r2 r2\njump 1\n", srcs{1: num(5), 8: val(8)}, srcs{1: num(5), 8: num(5)}, srcs{1: num(5), 8: num(5)})
	factsOf(t, "const r1 5\nzero r0 4\nstore r0 r0\njump 1\nload r2 r2\njump 1\n", five, five, five)
}

// P11.2: what a circle keeps, and the Entry, or a way of another node into it, contradicts.
func TestFactsContradicted(t *testing.T) {
	// By the Entry: what the register had; nothing; another number.
	factsOf(t, "zero r0 2\njump 0\nret r1\n", nil, nil)
	factsOf(t, "zero r0 3\nconst r1 5\njump 0\nret r1\n", nil, nil)
	factsOf(t, "zero r0 3\nconst s1 5\njump 0\nret r1\n", srcs{9: val(9)}, srcs{9: val(9)})
	factsOf(t, "const r1 6\nzero r0 4\nconst r1 5\njump 1\nret r1\n", nil, nil)
	factsOf(t, "const s0 5\nzero r0 4\nmov s0 s1\njump 1\nret r1\n", srcs{8: val(8)}, srcs{8: val(8)})
	factsOf(t, "store r1 r2\nmov r1 s0\njump 0\n", nil)
	factsOf(t, "store r1 r2\nmov s0 r1\nconst r1 5\njump 0\n", srcs{8: val(8)})
	// By a way into the circle, behind its first node.
	factsOf(t, "const r1 5\nzero r0 5\nload r2 r2\nstore r2 r2\njump 2\nconst r1 6\njump 3\n", srcs{1: num(5)}, nil, nil)
	// One of two places alone.
	factsOf(t, "const r1 5\nconst r2 5\nzero r0 5\nmov r1 r2\njump 2\nret r1\n", srcs{1: num(5), 2: num(5)}, srcs{1: num(5), 2: num(5)})
	factsOf(t, "const r1 4\nconst r2 5\nzero r0 5\nmov r1 r2\njump 2\nret r1\n", srcs{1: val(1), 2: num(5)}, srcs{1: val(1), 2: num(5)})
}

// P11.2: facts that fall one behind the other, through many nodes, and through many places of one.
func TestFactsFall(t *testing.T) {
	for _, n := range []int{5, 6, 20, 199, 200} {
		f := backwards(n)
		factsAre(t, f, nil, make([]srcs, n-3)...)
		// Where the last one makes it no other number, all stay.
		f[n-2].N = 5
		factsAre(t, f, nil, slices.Repeat([]srcs{{1: num(5)}}, n-3)...)
		// And nothing in place of a number.
		f[0], f[n-2].D = api.Ins{Op: api.Mov, D: 1, A: 9}, 2
		factsAre(t, f, nil, slices.Repeat([]srcs{{1: none()}}, n-3)...)
		f[n-2].D = 1
		factsAre(t, f, nil, make([]srcs, n-3)...)
	}
	// Each place gets what the next one had: the last one's falls first, then that of the one ahead of it.
	up, down := []api.Ins{{Op: api.Store}}, []api.Ins{{Op: api.Store}}
	var begin []api.Ins
	for l := range 24 {
		begin = append(begin, api.Ins{Op: api.Const, D: l, N: 5})
		if l < 23 {
			up = append(up, api.Ins{Op: api.Mov, D: l, A: l + 1})
			down = append(down, api.Ins{Op: api.Mov, D: 23 - l, A: 22 - l})
		}
	}
	for _, x := range []struct {
		loop []api.Ins
		last int
	}{{up, 23}, {down, 0}} {
		for _, n := range []int64{5, 6} {
			f := slices.Concat(begin, x.loop, []api.Ins{{Op: api.Const, D: x.last, N: n}, {Op: api.Jump, To: 24}})
			want := has(val, nil)
			if n == 5 {
				want = slices.Repeat([]api.Src{num(5)}, 24)
			}
			if facts := value.Facts(f, built(t, f, nil)); len(facts) != 1 || !slices.Equal(facts[0], want) {
				t.Errorf("%v: %v", f, facts)
			}
		}
	}
}

// P11.2: ways from places that are cut don't count.
func TestFactsWithCut(t *testing.T) {
	f := parsed(t, "const r1 5\nzero r0 5\nload r2 r2\nconst r1 6\njump 5\nret r1\n")
	factsAre(t, f, nil, srcs{1: num(5)}, nil, srcs{1: num(5)})
	factsAre(t, f, mask(6, 2), srcs{1: num(5)}, srcs{1: num(5)}, srcs{1: num(5)})
	factsAre(t, f, mask(2, 1), srcs{1: num(5)})
	g := parsed(t, "zero r0 5\nload r2 r2\nmov s0 r2\njump 5\nret r4\nadd r1 r1 r1\nret r1\n")
	factsAre(t, g, nil, nil, srcs{8: val(8)}, nil, srcs{8: val(8)})
	factsAre(t, g, mask(7, 1), nil, nil, nil, nil)
}

// P11.2: functions of all kinds, with some places cut, against the chapter's Words.
func TestFactsAgainstWords(t *testing.T) {
	kinds := map[int]int{}
	fell, met := 0, 0
	eachCut(t, func(f []api.Ins, cut []bool) {
		s := built(t, f, cut)
		facts, want := value.Facts(f, s), workedFacts(f, s)
		if !sameFacts(facts, want) {
			t.Fatalf("%v, cut %v: %v; it ought to be %v", f, cut, facts, want)
		}
		all := workedAll(f, s)
		for n, l := range want {
			for i, x := range l {
				kinds[x.Kind]++
				if len(all[n]) > 1 && x.Kind == 2 {
					met++
				}
				if len(all[n]) > 1 && x.Kind == 4 && all[n][0][i].Kind == 2 {
					fell++
				}
			}
		}
	})
	for _, kind := range []int{0, 2, 4} {
		if kinds[kind] < 1000 {
			t.Errorf("of kind %d were only %d", kind, kinds[kind])
		}
	}
	if met < 500 || fell < 500 {
		t.Errorf("only %d numbers met by several ways, and %d fell", met, fell)
	}
}

// P11.2: each fact is what the ways to its node say with all other facts: one number or nothing, if all say that; else the place's own value.
func TestFactsAreWhatWaysSay(t *testing.T) {
	eachCut(t, func(f []api.Ins, cut []bool) {
		s := built(t, f, cut)
		facts, all, ways := value.Facts(f, s), workedAll(f, s), skel.Ways(s)
		for n, l := range facts {
			for i, x := range l {
				said := map[api.Src]bool{}
				for w, e := range ways[n] {
					y := all[n][w][i]
					if y.Kind == 4 {
						y = facts[e.From][y.N]
					}
					said[y] = true
				}
				want := val(i)
				for y := range said {
					if len(said) == 1 && (y.Kind == 2 || y == none()) {
						want = y
					}
				}
				if x != want {
					t.Fatalf("%v, cut %v: place %d of node %d has the fact %v, and its ways say %v", f, cut, i, n, x, said)
				}
			}
		}
	})
}
