package value_test

import (
	"math"
	"slices"
	"testing"

	"joinery/api"
	"joinery/asm"
	"joinery/run"
	"joinery/skel"
	"joinery/step"
	"joinery/value"
)

// cutsAre: are just those places of a function cut?
func cutsAre(t *testing.T, f []api.Ins, places ...int) {
	t.Helper()
	cut, e := value.Cut(f)
	if want := mask(len(f), places...); e != api.OK || !slices.Equal(cut, want) {
		t.Errorf("%v: %v, %d; it ought to be %v", f, cut, e, want)
	}
}

// cutsOf is that of a text.
func cutsOf(t *testing.T, text string, places ...int) {
	t.Helper()
	cutsAre(t, parsed(t, text), places...)
}

// lacking answers the places of a skeleton's nodes whose instructions need what is nothing by all ways, round by round.
func lacking(f []api.Ins, s skel.Skeleton) []int {
	var places []int
	for n, l := range workedFacts(f, s) {
		at := s.Nodes[n].At
		if slices.ContainsFunc(neededBy(f[at]), func(need int) bool { return l[need] == none() }) {
			places = append(places, at)
		}
	}
	return places
}

// workedCut is what the chapter's Words say of a function that is right, and in how many rounds it comes about.
func workedCut(f []api.Ins) ([]bool, int) {
	cut := make([]bool, len(f))
	for rounds := 0; ; rounds++ {
		s, _ := skel.Build(f, cut)
		was := slices.Clone(cut)
		for _, at := range lacking(f, s) {
			cut[at] = true
		}
		if slices.Equal(cut, was) {
			return cut, rounds
		}
	}
}

// wrongFunctions are functions that aren't right.
func wrongFunctions() map[string][]api.Ins {
	ret, pad := api.Ins{Op: api.Ret}, api.Ins{Op: api.Mov, D: 3, A: 4}
	return map[string][]api.Ins{
		"nil":                             nil,
		"none":                            {},
		"no end":                          {pad},
		"no end behind a ret":             {ret, pad},
		"const at the end":                {ret, {Op: api.Const, N: 5}},
		"swap at the end":                 {ret, {Op: api.Swap, A: 5}},
		"zero at the end":                 {pad, {Op: api.Zero, To: 0}},
		"add at the end":                  {{Op: api.Add}},
		"no Op":                           {{}, ret},
		"an Op of 19":                     {{Op: 19}, ret},
		"an Op of -1":                     {ret, {Op: -1}, ret},
		"an Op far away":                  {{Op: math.MaxInt}, {Op: math.MinInt}, ret},
		"a field to spare":                {pad, {Op: api.Ret, D: 1}},
		"a jump with a place":             {{Op: api.Jump, D: 1, To: 0}},
		"a const with a place too many":   {{Op: api.Const, D: 1, A: 1}, ret},
		"a mov with a To":                 {{Op: api.Mov, To: 1}, ret},
		"a slot that is needed":           {{Op: api.Ret, A: api.Regs}},
		"a slot that gets a number":       {{Op: api.Load, D: api.Regs}, ret},
		"no place":                        {{Op: api.Mov, A: api.Locs}, ret},
		"a place below 0":                 {{Op: api.Swap, D: -1}, ret},
		"a place far away":                {{Op: api.Const, D: math.MaxInt}, ret},
		"a call too high":                 {{Op: api.Call, N: api.MaxCall + 1}, ret},
		"a jump to behind the last":       {pad, {Op: api.Jump, To: 2}},
		"a jump to where MaxIns would do": {pad, {Op: api.Jump, To: 199}},
		"a jump below 0":                  {{Op: api.Jump, To: -1}},
		"a jump far away":                 {{Op: api.Jump, To: math.MaxInt}, {Op: api.Jump, To: math.MinInt}},
		"a zero below 0":                  {{Op: api.Zero, To: -1}, ret},
		"a zero to behind the last":       {{Op: api.Zero, To: 2}, ret},
		"MaxIns and one more":             long(api.MaxIns + 1),
		"MaxIns and one more, all round":  slices.Repeat([]api.Ins{{Op: api.Jump}}, api.MaxIns+1),
		"many":                            long(5000),
		"a fault that no way reaches":     {ret, {Op: api.Jump, To: 3}, ret},
		"a fault behind a circle":         {{Op: api.Jump, To: 0}, {Op: api.Ret, A: 8}},
		"a fault behind what is cut":      {{Op: api.Mov, D: 1, A: 8}, {Op: api.Ret, A: 1}, {Op: api.Ret, A: 24}},
	}
}

// P11.3, R2: a function that isn't right: ErrArg, and beside it nothing.
func TestCutOfWrongFunctions(t *testing.T) {
	met := map[api.Errno]bool{}
	for what, f := range wrongFunctions() {
		_, why := asm.Check(f)
		met[why] = true
		if cut, e := value.Cut(f); e != 1 || len(cut) != 0 {
			t.Errorf("%s: %v, %d", what, cut, e)
		}
	}
	for _, e := range []api.Errno{api.ErrArg, api.ErrFull, api.ErrTo, api.ErrEnd, api.ErrUse} {
		if !met[e] {
			t.Errorf("no function is wrong by %d", e)
		}
	}
	if met[api.OK] {
		t.Error("a function is right")
	}
}

// P11.3: functions that need nothing that is None: no place, and the answer is as long as the function.
func TestCutOfNone(t *testing.T) {
	for _, text := range []string{
		"ret r0\n",
		"jump 0\n",
		"add r1 r2 r3\nret r1\n",
		"store r6 r7\nload r5 r6\nzero r5 0\nret r4\n",
		"mov s0 r1\nmov r1 s0\nret r1\n",
		"const r1 5\nret r1\n",
		"const r1 0\nconst s3 0\nmov r2 s3\nadd r3 r1 r2\nret r3\n",
		"mov r1 s0\nret r0\n",
		"mov r1 s0\nconst r1 0\nret r1\n",
		"mov r1 s0\ncall r1 r0 5\nret r1\n",
		"mov r1 s0\nload r1 r0\nadd r2 r1 r1\nret r1\n",
		"swap r1 s0\nswap r1 s0\nret r1\n",
		"mov r1 s0\njump 1\n",
		"mov s1 s0\nswap s1 s2\njump 0\n",
	} {
		cutsOf(t, text)
	}
	for _, n := range []int{1, 2, 3, 50, 199, 200} {
		cutsAre(t, long(n))
		cutsAre(t, straight(n))
		cutsAre(t, slices.Repeat([]api.Ins{{Op: api.Jump}}, n))
	}
}

// needy are instructions that need r1, or r1 and r2, one of each Op, those that set a place with D in r4.
func needy() []api.Ins {
	l := []api.Ins{{Op: api.Load, D: 4, A: 1}, {Op: api.Store, A: 1, B: 2}, {Op: api.Call, D: 4, A: 1, N: 7}, {Op: api.Zero, A: 1, To: 2}, {Op: api.Ret, A: 1}}
	for op := api.Add; op <= api.Same; op++ {
		l = append(l, api.Ins{Op: op, D: 4, A: 1, B: 2})
	}
	return l
}

// P11.3: the chapter's example, and needs of a slot that nothing was ever moved to, of each operation, by A and by B, and through several moves.
func TestCutOfSlot(t *testing.T) {
	cutsOf(t, "mov r1 s0\nret r1\n", 1)
	for l := 8; l < 24; l++ {
		for _, x := range needy() {
			// What it sets, of what stands ahead of it, has no weight.
			begin := []api.Ins{{Op: api.Mov, D: x.D, A: l}, {Op: api.Mov, D: 3, A: l}, {Op: api.Mov, D: 1, A: 5}, {Op: api.Mov, D: 2, A: 6}}
			end := []api.Ins{{Op: api.Jump, To: 2}}
			cutsAre(t, slices.Concat(begin, []api.Ins{x}, end))
			lacks := x
			lacks.A = 3
			cutsAre(t, slices.Concat(begin, []api.Ins{lacks}, end), 4)
			if x.B != 0 {
				lacks.B = 3
				cutsAre(t, slices.Concat(begin, []api.Ins{lacks}, end), 4)
				lacks.A = x.A
				cutsAre(t, slices.Concat(begin, []api.Ins{lacks}, end), 4)
			}
		}
	}
	cutsOf(t, "swap r1 s5\nmov s5 r1\nmov r6 s5\nzero r6 4\nret r0\n", 3)
	cutsOf(t, "const s0 5\nmov s0 s1\nmov r1 s0\nret r1\n", 3)
	cutsOf(t, "mov r1 s0\nstore r2 r3\nmov r4 r1\nstore r2 r3\nret r4\n", 4)
	// By two ways, from two slots.
	cutsOf(t, "zero r0 3\nmov r1 s1\njump 4\nmov r1 s2\nret r1\n", 4)
}

// P11.3: what is needed is nothing by one way only: not cut.
func TestCutNothingByOneWay(t *testing.T) {
	cutsOf(t, "zero r0 2\nmov r1 s0\nret r1\n")
	cutsOf(t, "mov r1 s0\nzero r0 3\nconst r1 0\nret r1\n")
	cutsOf(t, "mov r1 s0\nzero r0 3\ncall r1 r0 1\nret r1\n")
	cutsOf(t, "zero r0 3\nconst s0 0\njump 3\nmov r1 s0\nret r1\n")
	cutsOf(t, "mov r1 s0\nstore r0 r0\nzero r0 6\nload r2 r1\nret r2\njump 3\nconst r1 7\njump 3\n")
	// Of two that are needed one is nothing by all ways, the other by none.
	cutsOf(t, "mov r1 s0\nzero r0 3\nmov r2 s1\nadd r3 r1 r2\nret r3\n", 3)
	cutsOf(t, "mov r1 s0\nzero r0 3\nmov r2 s1\nadd r3 r2 r2\nret r1\n", 4)
}

// P11.3: places that are no nodes are not cut: what only moves, and what no way reaches.
func TestCutNoNode(t *testing.T) {
	cutsOf(t, "ret r0\nmov r1 s0\nret r1\n")
	cutsOf(t, "jump 3\nmov r1 s0\nadd r2 r1 r1\nret r1\n")
	cutsOf(t, "jump 0\nmov r1 s0\nret r1\n")
	cutsOf(t, "mov r1 s0\nmov r2 r1\nswap r1 s1\njump 5\nret r2\nret r2\n", 5)
	cutsOf(t, "zero r0 1\njump 1\nmov r1 s0\nret r1\n")
	// Behind a place that is cut all that is a node with none cut is cut, if it needs what is nothing.
	cutsOf(t, "mov r1 s0\nadd r2 r1 r1\nadd r3 r1 r1\nret r3\n", 1, 2)
	cutsOf(t, "mov r1 s0\nadd r1 r1 r1\nadd r3 r1 r1\nret r3\n", 1)
	cutsOf(t, "mov r1 s0\nadd r2 r1 r1\nmov r3 s1\nret r3\n", 1, 3)
}

// P11.3: places that are cut only since others are.
func TestCutSinceAnotherIs(t *testing.T) {
	cutsOf(t, "zero r0 5\nmov r1 s0\nadd r2 r1 r1\nconst s1 5\njump 5\nmov r3 s1\nret r3\n", 2, 6)
	cutsOf(t, "zero r0 4\nmov r1 s0\nload r2 r1\nmov s0 r2\nmov r1 s0\nret r1\n", 2, 5)
	// By a call's answer, and by the second way of a zero.
	cutsOf(t, "zero r0 4\nmov r1 s0\ncall r2 r1 3\nmov s1 r2\nmov r3 s1\nret r3\n", 2, 5)
	cutsOf(t, "zero r0 4\nmov r1 s0\nzero r1 3\nmov s1 r2\nmov r3 s1\nret r3\n", 2, 5)
	// The way that gave a number is still there, from another node: not cut.
	cutsOf(t, "zero r0 6\nzero r2 4\nmov r1 s0\nadd r2 r1 r1\nconst s1 5\njump 6\nmov r3 s1\nret r3\n", 3)
	// What only the cut place reached is a node no more, and needed what was something: not cut.
	cutsOf(t, "mov r1 s0\nadd r2 r1 r1\nret r2\n", 1)
	// Two rounds and more, each of one place: all but the last part are loads, the last one is a ret.
	for _, parts := range []int{1, 2, 3, 4, 10, 49, 50} {
		f := inTurn(parts)
		var places []int
		for i := range parts - 1 {
			places = append(places, 4*i+2)
		}
		cutsAre(t, f, append(places, len(f)-2)...)
		if _, rounds := workedCut(f); rounds != parts {
			t.Errorf("%d parts are cut in %d rounds", parts, rounds)
		}
		// Where the first one has a number, none is cut.
		if len(f) < api.MaxIns {
			cutsAre(t, append([]api.Ins{{Op: api.Const, D: 8, N: 1}}, later(f)...))
		}
	}
}

// later answers instructions as they stand one place later.
func later(f []api.Ins) []api.Ins {
	moved := slices.Clone(f)
	for i, x := range moved {
		if x.Op == api.Jump || x.Op == api.Zero {
			moved[i].To++
		}
	}
	return moved
}

// P11.3: cut places in loops.
func TestCutInLoops(t *testing.T) {
	cutsOf(t, "call r0 r0 1\nmov r1 s0\nadd r2 r1 r1\njump 0\n", 2)
	cutsOf(t, "zero r0 4\nmov r1 s0\nadd r2 r1 r1\njump 0\nret r0\n", 2)
	cutsOf(t, "mov r1 s0\nload r2 r1\njump 1\n", 1)
	cutsOf(t, "mov r1 s0\nzero r1 1\njump 1\n", 1)
	// Nothing is kept by the circle.
	cutsOf(t, "zero r0 3\nmov s0 s0\njump 0\nmov r3 s0\nret r3\n", 4)
	cutsOf(t, "zero r0 3\nswap s0 s1\njump 0\nmov r3 s0\nret r3\n", 4)
	// The circle gives it a number: not cut, neither in the circle nor behind it.
	cutsOf(t, "zero r0 4\nmov r1 s0\nadd r2 r1 r1\njump 7\nmov r3 s0\nret r3\nret r0\nmov s0 r2\njump 0\n")
	cutsOf(t, "store r0 r0\nload r1 r2\nmov r3 s0\nmov s0 r1\nmov r2 r3\njump 0\n")
	// The circle that would give it one is cut, and then what is behind it.
	cutsOf(t, "zero r0 6\nmov r1 s1\nadd r2 r1 r1\nmov s0 r2\njump 0\nret r0\nmov r3 s0\nret r3\n", 2, 7)
}

// P11.3: the longest function that is allowed: all of it is cut, its last place alone, or one at each end.
func TestCutOfLongest(t *testing.T) {
	f := straight(200)
	f[0] = api.Ins{Op: api.Mov, D: 2, A: 23}
	var all []int
	for at := 1; at < 199; at++ {
		all = append(all, at)
	}
	cutsAre(t, f, all...)
	f[199].A = 2
	cutsAre(t, f, append(all, 199)...)
	g := long(200)
	g[198].A = 8
	cutsAre(t, g, 199)
	h := straight(200)
	h[198], h[199] = api.Ins{Op: api.Mov, D: 7, A: 23}, api.Ins{Op: api.Ret, A: 7}
	cutsAre(t, h, 199)
	cutsAre(t, backwards(200))
	cutsAre(t, append(straight(199)[:198:198], api.Ins{Op: api.Jump, To: 199}, api.Ins{Op: api.Ret}))
}

// P11.3: functions of all kinds, against the chapter's Words.
func TestCutAgainstWords(t *testing.T) {
	var some, several int
	each(t, func(f []api.Ins) {
		want, rounds := workedCut(f)
		cut, e := value.Cut(f)
		if e != api.OK || !slices.Equal(cut, want) {
			t.Fatalf("%v: %v, %d; it ought to be %v", f, cut, e, want)
		}
		if rounds > 0 {
			some++
		}
		if rounds > 1 {
			several++
		}
	})
	if some < 100 || several < 10 {
		t.Errorf("only %d functions have cut places, %d in several rounds", some, several)
	}
}

// cases are what functions are run with: numbers that are 0 and others, heaps of some words and of none.
func cases() []api.Case {
	return []api.Case{
		{R: [8]int64{}, Heap: []int64{0, 0, 0}, Answers: make([]int64, 40)},
		{R: [8]int64{1, 2, 0, 1, 2, 0, 1, 0}, Heap: []int64{2, 1, 0, 5}, Answers: []int64{0, 1, 0, 2, 1, 0, 0, 3, 1, 1}},
		{R: [8]int64{0, 1, 2, 3, 4, 5, 6, 7}, Heap: make([]int64, 16), Answers: []int64{1, 0, 1}},
		{R: [8]int64{-1, 9, -1, 9, -1, 9, -1, 9}},
	}
}

// walk hands over each state in which a run comes to what does more than move, and how the run stands behind that, for so many steps or till it isn't to go on.
func walk(t *testing.T, f []api.Ins, c api.Case, steps int, hand func(s api.State, how int) bool) {
	t.Helper()
	s := run.Begin(c)
	for range steps {
		next, _, out, e := step.Do(f, s, c.Answers)
		if e != api.OK {
			t.Fatalf("%v at %d: %d", f, s.At, e)
		}
		if !onlyMoves(f[s.At]) && !hand(s, out.How) || out.How != api.Runs {
			return
		}
		s = next
	}
}

// P11.4: whenever a run comes to a node, a place whose fact is Num has that number, and one whose fact is None has nothing: with no place cut, and with those that Cut tells of.
func TestRunsHaveWhatFactsSay(t *testing.T) {
	var nodes, numbers, nothing, numbersMet int
	each(t, func(f []api.Ins) {
		cut, _ := value.Cut(f)
		for _, gone := range [][]bool{nil, cut} {
			s := built(t, f, gone)
			facts, ways := value.Facts(f, s), skel.Ways(s)
			numbered := map[int]int{}
			for n, x := range s.Nodes {
				numbered[x.At] = n
			}
			for _, c := range cases() {
				walk(t, f, c, 90, func(st api.State, how int) bool {
					n, is := numbered[st.At]
					if !is {
						t.Fatalf("%v, cut %v: a run comes to %d, which is no node", f, gone, st.At)
					}
					nodes++
					for l, x := range facts[n] {
						switch x.Kind {
						case 0:
							nothing++
							if st.L[l].Is {
								t.Fatalf("%v, cut %v: at %d place %d has %v, and ought to have nothing", f, gone, st.At, l, st.L[l])
							}
						case 2:
							numbers++
							if len(ways[n]) > 1 {
								numbersMet++
							}
							if st.L[l] != (api.Word{Is: true, V: x.N}) {
								t.Fatalf("%v, cut %v: at %d place %d has %v, and ought to have %d", f, gone, st.At, l, st.L[l], x.N)
							}
						}
					}
					return true
				})
			}
		}
	})
	if nodes < 10000 || numbers < 5000 || nothing < 5000 || numbersMet < 2000 {
		t.Errorf("the runs came to only %d nodes, %d numbers, %d of them by several ways, and %d places that have nothing", nodes, numbers, numbersMet, nothing)
	}
}

// P11.5: a run that comes to a cut place ends there: Undef.
func TestRunsEndAtCutPlaces(t *testing.T) {
	var ended, later int
	each(t, func(f []api.Ins) {
		cut, e := value.Cut(f)
		if e != api.OK || len(cut) != len(f) {
			t.Fatalf("%v: %v, %d", f, cut, e)
		}
		for _, c := range cases() {
			met := 0
			walk(t, f, c, 90, func(st api.State, how int) bool {
				if cut[st.At] {
					ended++
					if met > 0 {
						later++
					}
					if how != api.Undef {
						t.Fatalf("%v: a run comes to %d, which is cut, and stands at %d behind it", f, st.At, how)
					}
				}
				met++
				return true
			})
			// The run itself, with all the fuel that may be.
			c.Fuel = 400
			trace, behind, _ := run.Run(f, c)
			if trace.Out.How != api.Runs && cut[behind.At] && trace.Out.How != api.Undef {
				t.Fatalf("%v: a run ends at %d, which is cut, with %d", f, behind.At, trace.Out.How)
			}
		}
	})
	if ended < 100 || later < 30 {
		t.Errorf("only %d runs ended at a cut place, %d of them behind another node", ended, later)
	}
}
