package run_test

import (
	"math"
	"slices"
	"testing"

	"joinery/api"
	"joinery/asm"
	"joinery/run"
	"joinery/step"
)

// told is all that a call of Run answers.
type told struct {
	t api.Trace
	s api.State
	e api.Errno
}

func ran(f []api.Ins, c api.Case) told {
	t, s, e := run.Run(f, c)
	return told{t, s, e}
}

// sameState: R3, a heap of no words may be nil or empty.
func sameState(a, b api.State) bool {
	return a.L == b.L && slices.Equal(a.Heap, b.Heap) && a.At == b.At && a.Asked == b.Asked
}

func sameTrace(a, b api.Trace) bool {
	return slices.Equal(a.Events, b.Events) && a.Steps == b.Steps && a.Work == b.Work &&
		a.Out.How == b.Out.How && a.Out.Value == b.Out.Value && slices.Equal(a.Out.Heap, b.Out.Heap)
}

func same(a, b told) bool {
	return sameTrace(a.t, b.t) && sameState(a.s, b.s) && a.e == b.e
}

// number answers the word that is a number.
func number(v int64) api.Word { return api.Word{Is: true, V: v} }

// row answers words of which no two are the same, and none is 0.
func row(n int) []int64 {
	var l []int64
	for i := range n {
		l = append(l, int64(500+7*i))
	}
	return l
}

// some answers a case with a number of its own in each register, four words, three answers, and this fuel.
func some(fuel int) api.Case {
	c := api.Case{Heap: row(4), Answers: row(3), Fuel: fuel}
	for r := range c.R {
		c.R[r] = int64(100 + r)
	}
	return c
}

// withReg answers a case with another number in a register.
func withReg(c api.Case, r int, v int64) api.Case {
	c.R[r] = v
	return c
}

func withFuel(c api.Case, fuel int) api.Case {
	c.Fuel = fuel
	return c
}

// begun is the beginning of a case, worked out beside the program.
func begun(c api.Case) api.State {
	s := api.State{Heap: slices.Clone(c.Heap)}
	for r := range api.Regs {
		s.L[r] = number(c.R[r])
	}
	return s
}

// parsed answers the function of a text.
func parsed(t *testing.T, text string) []api.Ins {
	t.Helper()
	f, at, e := asm.Parse(text)
	if e != api.OK {
		t.Fatalf("%q: %d at %d", text, e, at)
	}
	return f
}

// long answers a function of so many instructions that moves, and ends.
func long(n int) []api.Ins {
	return append(slices.Repeat([]api.Ins{{Op: api.Mov, D: 3, A: 4}}, n-1), api.Ins{Op: api.Ret, A: 3})
}

// byHand does as many steps as there is fuel, one by one, from a state on, as the chapter's Words say it.
func byHand(f []api.Ins, s api.State, answers []int64, fuel int) told {
	var g told
	g.s = s
	for g.t.Steps < fuel && g.t.Out.How == api.Runs {
		x := f[g.s.At]
		behind, events, out, e := step.Do(f, g.s, answers)
		if e != api.OK {
			panic("a step that may not be")
		}
		g.t.Events = append(g.t.Events, events...)
		g.t.Out, g.s = out, behind
		g.t.Steps++
		if x.Op != api.Const && x.Op != api.Mov && x.Op != api.Swap && x.Op != api.Jump {
			g.t.Work++
		}
	}
	return g
}

// texts are functions that go all ways: that end in each way, go round, go on for ever, call, store, and move.
func texts() []string {
	return []string{
		"ret r0\n",
		"jump 0\n",
		"zero r0 0\nret r1\n",
		"mov r1 r0\nret r1\n",
		"mov r1 r0\njump 0\n",
		"mov s0 r0\nswap s0 r1\njump 1\n",
		"add r0 r0 r1\njump 0\n",
		"add r0 r1 r2\njump 0\n",
		"div r0 r0 r1\nsub r1 r1 r2\njump 0\n",
		"mov r5 s3\njump 2\nadd r1 r5 r0\nret r1\n",
		"load r1 r0\nstore r0 r2\nadd r0 r0 r3\njump 0\n",
		"load r1 r0\nstore r0 r2\nret r1\n",
		"store r0 r1\nstore r1 r0\nswap r0 r1\njump 0\n",
		"call r1 r0 5\nadd r0 r0 r1\njump 0\n",
		"call r0 r0 0\ncall r0 r0 99\ncall r0 r0 7\nret r0\n",
		"const r2 1\ncall r3 r0 5\nzero r0 5\nsub r0 r0 r2\njump 1\nret r3\n",
		"const r7 3\nconst r6 1\nzero r7 5\nsub r7 r7 r6\njump 2\nmov s15 r0\nmov r1 s15\nret r1\n",
		"zero r0 2\njump 1\nzero r1 2\njump 2\n",
		"const r4 0\nzero r4 3\nret r4\nconst r4 1\nxor r0 r0 r4\nzero r0 3\nless r5 r0 r1\nsame r6 r5 r4\nmul r0 r0 r0\njump 3\n",
		"and r0 r0 r1\nor r1 r1 r2\nstore r3 r0\nswap r4 s4\nadd r5 r5 r4\nret r5\n",
	}
}

// each hands over functions with cases of all kinds, of these fuels.
func each(t *testing.T, fuels []int, hand func(f []api.Ins, c api.Case)) {
	t.Helper()
	for _, text := range texts() {
		f := parsed(t, text)
		for _, a := range []int64{0, 1, 3} {
			for _, b := range []int64{0, 1, 2} {
				for n := range 3 {
					c := api.Case{Heap: row(2 * n), Answers: row(5 * n)}
					c.R[0], c.R[1], c.R[2], c.R[3] = a, b, 1, 1
					for _, fuel := range fuels {
						hand(f, withFuel(c, fuel))
					}
				}
			}
		}
	}
}

var fuels = []int{0, 1, 2, 3, 4, 5, 6, 7, 8, 9, 12, 13, 40}

// P8.1: the cases at each border that are right, and what is beyond it, alone.
func TestRight(t *testing.T) {
	for what, c := range map[string]api.Case{
		"none of all":                 {},
		"some":                        some(9),
		"nil lists":                   {Fuel: 9},
		"empty lists":                 {Heap: []int64{}, Answers: []int64{}, Fuel: 9},
		"no word":                     {Answers: row(3), Fuel: 9},
		"one word":                    {Heap: row(1), Answers: row(3), Fuel: 9},
		"MaxHeap words":               {Heap: row(16), Answers: row(3), Fuel: 9},
		"MaxHeap words with room":     {Heap: row(40)[:16], Answers: row(3), Fuel: 9},
		"no answer":                   {Heap: row(3), Fuel: 9},
		"one answer":                  {Heap: row(3), Answers: row(1), Fuel: 9},
		"MaxCalls answers":            {Heap: row(3), Answers: row(5000), Fuel: 9},
		"MaxCalls answers with room":  {Heap: row(3), Answers: row(6000)[:5000], Fuel: 9},
		"a fuel of 0":                 {Heap: row(3), Answers: row(3), Fuel: 0},
		"a fuel of 1":                 {Heap: row(3), Answers: row(3), Fuel: 1},
		"a fuel of MaxFuel":           {Heap: row(3), Answers: row(3), Fuel: 5000},
		"all at their borders":        {Heap: row(16), Answers: row(5000), Fuel: 5000},
		"numbers at their borders":    {R: [8]int64{math.MinInt64, math.MaxInt64, -1, 0, 1, 1 << 32, -1 << 32, 5}, Heap: []int64{math.MinInt64, math.MaxInt64}, Answers: []int64{math.MinInt64, math.MaxInt64}},
		"more answers than fuel":      {Answers: row(9), Fuel: 1},
		"words that are all the same": {Heap: make([]int64, 16), Answers: make([]int64, 5000)},
	} {
		if !run.Right(c) {
			t.Errorf("%s: not Right", what)
		}
		if g := ran([]api.Ins{{Op: api.Ret}}, c); g.e != 0 {
			t.Errorf("%s: %d", what, g.e)
		}
	}
	for what, c := range wrongCases() {
		if run.Right(c) {
			t.Errorf("%s: Right", what)
		}
	}
}

// wrongCases are cases that aren't right, each in one way, and in all.
func wrongCases() map[string]api.Case {
	return map[string]api.Case{
		"a heap of MaxHeap+1 words":     {Heap: row(17), Answers: row(3), Fuel: 9},
		"a heap of MaxHeap+1 0s":        {Heap: make([]int64, 17)},
		"a long heap":                   {Heap: row(256 + 16), Answers: row(3), Fuel: 9},
		"a heap of 65536 words":         {Heap: make([]int64, 1<<16), Fuel: 9},
		"a heap as long as answers may": {Heap: row(5000), Answers: row(3), Fuel: 9},
		"MaxCalls+1 answers":            {Heap: row(3), Answers: row(5001), Fuel: 9},
		"MaxCalls+1 answers of 0":       {Answers: make([]int64, 5001)},
		"65536 answers":                 {Heap: row(3), Answers: make([]int64, 1<<16), Fuel: 9},
		"a fuel of -1":                  {Heap: row(3), Answers: row(3), Fuel: -1},
		"a fuel of MaxFuel+1":           {Heap: row(3), Answers: row(3), Fuel: 5001},
		"a fuel far below 0":            {Heap: row(3), Answers: row(3), Fuel: math.MinInt},
		"a fuel of 65536":               {Heap: row(3), Answers: row(3), Fuel: 1 << 16},
		"a fuel of 2^31-1":              {Heap: row(3), Answers: row(3), Fuel: math.MaxInt32},
		"a fuel far above":              {Heap: row(3), Answers: row(3), Fuel: math.MaxInt},
		"-1 alone":                      {Fuel: -1},
		"MaxFuel+1 alone":               {Fuel: 5001},
		"all of it":                     {Heap: row(17), Answers: row(5001), Fuel: -1},
		"a heap and a fuel":             {Heap: row(17), Fuel: 5001},
	}
}

// P8.1: heaps and answers of all lengths about the borders, and fuels.
func TestRightOfAllLengths(t *testing.T) {
	for n := range 40 {
		if c := (api.Case{Heap: row(n), Answers: row(n), Fuel: n}); run.Right(c) != (n <= 16) {
			t.Errorf("a heap of %d words: %v", n, run.Right(c))
		}
	}
	for n := 4990; n <= 5010; n++ {
		if c := (api.Case{Answers: make([]int64, n)}); run.Right(c) != (n <= 5000) {
			t.Errorf("%d answers: %v", n, run.Right(c))
		}
	}
	for n := -10; n <= 5010; n++ {
		if c := (api.Case{Fuel: n}); run.Right(c) != (n >= 0 && n <= 5000) {
			t.Errorf("a fuel of %d: %v", n, run.Right(c))
		}
	}
}

// P8.1: registers have the case's numbers, slots nothing; its heap, At 0, Asked 0; of a case that is right and of one that isn't.
func TestBegin(t *testing.T) {
	cases := wrongCases()
	cases["none of all"], cases["some"], cases["all at their borders"] = api.Case{}, some(9), api.Case{Heap: row(16), Answers: row(5000), Fuel: 5000}
	for what, c := range cases {
		for _, r := range [][8]int64{{}, {1, 2, 3, 4, 5, 6, 7, 8}, {math.MinInt64, math.MaxInt64, -1, 0, 1, 1 << 32, -1 << 32, 5}, {7: -9}, {0: 4}} {
			c.R = r
			b := run.Begin(c)
			for l, w := range b.L {
				if l < 8 && w != number(r[l]) || l >= 8 && w != (api.Word{}) {
					t.Errorf("%s: %+v at %d of %v", what, w, l, r)
				}
			}
			if !slices.Equal(b.Heap, c.Heap) || b.At != 0 || b.Asked != 0 {
				t.Errorf("%s: %+v", what, b)
			}
		}
	}
	if b := run.Begin(some(0)); b.L[0] != number(100) || b.L[7] != number(107) || b.L[8].Is || b.L[23].Is || !slices.Equal(b.Heap, []int64{500, 507, 514, 521}) {
		t.Errorf("%+v", b)
	}
}

// P8.1: a beginning is right for all functions, where the case is right.
func TestBeginningsAreRight(t *testing.T) {
	each(t, fuels, func(f []api.Ins, c api.Case) {
		if !step.Right(f, run.Begin(c)) {
			t.Fatalf("%+v: the beginning isn't right", c)
		}
	})
}

// wrongFunctions are functions that aren't right.
func wrongFunctions() map[string][]api.Ins {
	ret, pad := api.Ins{Op: api.Ret}, api.Ins{Op: api.Mov, D: 3, A: 4}
	return map[string][]api.Ins{
		"nil":                         nil,
		"none":                        {},
		"no end":                      {pad},
		"no end behind a ret":         {ret, pad},
		"zero at the end":             {pad, {Op: api.Zero, To: 0}},
		"no Op":                       {{}, ret},
		"an Op of 19":                 {{Op: 19}, ret},
		"an Op of -1":                 {ret, {Op: -1}, ret},
		"a field to spare":            {pad, {Op: api.Ret, D: 1}},
		"a slot that is needed":       {{Op: api.Ret, A: api.Regs}},
		"no place":                    {{Op: api.Mov, A: api.Locs}, ret},
		"a place below 0":             {{Op: api.Swap, D: -1}, ret},
		"a call too high":             {{Op: api.Call, N: api.MaxCall + 1}, ret},
		"a jump to nowhere":           {pad, {Op: api.Jump, To: 2}},
		"a jump below 0":              {{Op: api.Zero, To: -1}, ret},
		"too many":                    long(api.MaxIns + 1),
		"a fault that no run reaches": {ret, {Op: api.Jump, To: 3}, ret},
	}
}

// nothing: P8.2, R2: beside ErrArg there is nothing else.
func nothing(t *testing.T, what string, f []api.Ins, c api.Case) {
	t.Helper()
	g := ran(f, c)
	if g.e != 1 || !same(g, told{e: api.ErrArg}) || cap(g.t.Events) != 0 || cap(g.t.Out.Heap) != 0 || cap(g.s.Heap) != 0 {
		t.Errorf("%s: %+v", what, g)
	}
}

// P8.2: a function that isn't right, a case that isn't, and both.
func TestErrArg(t *testing.T) {
	for what, c := range wrongCases() {
		for _, text := range texts() {
			nothing(t, what, parsed(t, text), c)
		}
		nothing(t, what, long(api.MaxIns), c)
		for whatElse, f := range wrongFunctions() {
			nothing(t, what+", "+whatElse, f, c)
		}
	}
	for what, f := range wrongFunctions() {
		for _, fuel := range []int{0, 1, 2, 9, api.MaxFuel} {
			nothing(t, what, f, some(fuel))
			nothing(t, what, f, api.Case{Fuel: fuel})
		}
	}
	for _, n := range []int{1, 2, api.MaxIns - 1, api.MaxIns} {
		if g := ran(long(n), some(api.MaxFuel)); g.e != api.OK || g.t.Steps != n {
			t.Errorf("%d instructions: %+v", n, g)
		}
	}
}

// P8.2: the chapter's examples.
func TestExamples(t *testing.T) {
	f := parsed(t, "mov r1 r0\nret r1\n")
	c := withReg(api.Case{Fuel: 9}, 0, 7)
	want := told{t: api.Trace{Out: api.Outcome{How: api.Done, Value: 7}, Steps: 2, Work: 1}, s: begun(c)}
	want.s.L[1], want.s.At = number(7), 1
	if g := ran(f, c); !same(g, want) {
		t.Errorf("mov r1 r0, ret r1: %+v", g)
	}
	forEver := parsed(t, "jump 0\n")
	for fuel := range 300 {
		c.Fuel = fuel
		if g := ran(forEver, c); !same(g, told{t: api.Trace{Steps: fuel}, s: begun(c)}) {
			t.Fatalf("jump 0 with a fuel of %d: %+v", fuel, g)
		}
	}
}

// P8.2: with a fuel of 0 nothing is done, whatever would come of it.
func TestFuelOf0(t *testing.T) {
	each(t, []int{0}, func(f []api.Ins, c api.Case) {
		g := ran(f, c)
		if !same(g, told{s: begun(c)}) || len(g.t.Events) != 0 || g.t.Out.How != 0 || g.t.Steps != 0 || g.t.Work != 0 {
			t.Fatalf("%+v of %+v: %+v", f, c, g)
		}
	})
	if g := ran(long(api.MaxIns), some(0)); !same(g, told{s: begun(some(0))}) {
		t.Errorf("%+v", g)
	}
}

// ends: a run of a text comes to this, at this place, with these steps, whether it has just as much fuel, or more.
func ends(t *testing.T, text string, c api.Case, out api.Outcome, steps, work int, behind api.State, events ...api.Event) {
	t.Helper()
	want := told{t: api.Trace{Events: events, Out: out, Steps: steps, Work: work}, s: behind}
	for _, fuel := range []int{steps, steps + 1, steps + 2, 2 * steps, 100, api.MaxFuel} {
		if g := ran(parsed(t, text), withFuel(c, fuel)); !same(g, want) {
			t.Errorf("%q with a fuel of %d: %+v; not %+v", text, fuel, g, want)
		}
	}
}

// P8.2: runs that end in each way, at once and behind other steps: the step is counted, and the state is the one ahead of it.
func TestEnds(t *testing.T) {
	c := some(0)
	s := begun(c)
	at := func(s api.State, at int) api.State {
		s.At = at
		return s
	}
	ends(t, "ret r5\n", c, api.Outcome{How: 1, Value: 105, Heap: row(4)}, 1, 1, s)
	ends(t, "swap r0 r1\nret r0\n", c, api.Outcome{How: api.Done, Value: 101, Heap: row(4)}, 2, 1, func() api.State {
		x := at(s, 1)
		x.L[0], x.L[1] = s.L[1], s.L[0]
		return x
	}())
	ends(t, "ret r0\n", api.Case{}, api.Outcome{How: api.Done}, 1, 1, begun(api.Case{}))

	stored := at(s, 2)
	stored.L[0], stored.Heap = number(2), []int64{500, 507, 101, 521}
	ends(t, "const r0 2\nstore r0 r1\nret r7\n", c, api.Outcome{How: api.Done, Value: 107, Heap: stored.Heap}, 3, 2, stored)

	empty := at(s, 1)
	empty.L[3] = api.Word{}
	ends(t, "mov r3 s2\nadd r1 r2 r3\nret r1\n", c, api.Outcome{How: 2}, 2, 1, empty)
	ends(t, "mov r3 s2\nret r3\n", c, api.Outcome{How: api.Undef}, 2, 1, empty)
	ends(t, "mov r3 s2\nzero r3 0\nret r1\n", c, api.Outcome{How: api.Undef}, 2, 1, empty)
	ends(t, "mov r3 s2\ncall r1 r3 4\nret r1\n", c, api.Outcome{How: api.Undef}, 2, 1, empty)

	by := withReg(c, 4, 0)
	ends(t, "div r0 r1 r4\nret r0\n", by, api.Outcome{How: 3}, 1, 1, begun(by))
	round := at(begun(by), 2)
	round.L[0], round.L[5] = number(109), number(105)
	ends(t, "add r0 r0 r7\nsub r0 r0 r6\ndiv r5 r0 r4\njump 0\n", withReg(by, 0, 108), api.Outcome{How: api.ByNil}, 3, 3, round)

	ends(t, "load r0 r1\nret r0\n", c, api.Outcome{How: 4}, 1, 1, s)
	ends(t, "jump 2\nret r0\nstore r1 r0\nret r0\n", c, api.Outcome{How: api.Out}, 2, 1, at(s, 2))
	ends(t, "store r0 r1\nret r0\n", api.Case{}, api.Outcome{How: api.Out}, 1, 1, begun(api.Case{}))

	mute := c
	mute.Answers = nil
	ends(t, "mov s0 r0\njump 2\ncall r0 r0 3\nret r0\n", mute, api.Outcome{How: 5}, 3, 1, func() api.State {
		x := at(s, 2)
		x.L[8] = number(100)
		return x
	}())
	called := at(s, 1)
	called.L[0], called.Asked = number(500), 1
	mute.Answers = row(1)
	ends(t, "call r0 r0 3\ncall r0 r0 4\nret r0\n", mute, api.Outcome{How: api.Mute}, 2, 2, called, api.Event{N: 3, Arg: 100, Answer: 500})
}

// P8.2, P8.4: runs that go on for ever do as many steps as there is fuel: onto themselves, round, with moves alone, with work, and as words change.
func TestForEver(t *testing.T) {
	for _, v := range []struct {
		text string
		work []int // of each step of a round
	}{
		{"jump 0\n", []int{0}}, {"zero r0 0\nret r0\n", []int{1}}, {"jump 1\njump 1\n", []int{0}}, {"jump 1\njump 0\n", []int{0, 0}},
		{"mov r1 r1\njump 0\n", []int{0, 0}}, {"swap r1 s1\njump 0\n", []int{0, 0}}, {"const r3 -5\nmov r4 r3\njump 0\n", []int{0, 0, 0}},
		{"add r1 r1 r2\njump 0\n", []int{1, 0}}, {"add r3 r1 r2\njump 0\n", []int{1, 0}}, {"add r1 r1 r2\nzero r0 0\nret r0\n", []int{1, 1}},
		{"load r3 r0\nstore r0 r1\njump 0\n", []int{1, 1, 0}}, {"zero r0 2\nret r0\njump 0\n", []int{1, 0}}, {"jump 2\nret r0\nzero r0 0\nret r0\n", []int{0, 1}},
	} {
		f := parsed(t, v.text)
		for _, fuel := range []int{1, 2, 3, 4, 5, 6, 100, 101, 102, api.MaxFuel - 1, api.MaxFuel} {
			c := withReg(some(fuel), 0, 0)
			want := byHand(f, begun(c), c.Answers, fuel)
			want.t = api.Trace{Steps: fuel}
			for i := range fuel {
				want.t.Work += v.work[i%len(v.work)]
			}
			if g := ran(f, c); !same(g, want) {
				t.Fatalf("%q with a fuel of %d: %+v; not %+v", v.text, fuel, g, want)
			}
		}
	}
	c := withReg(some(api.MaxFuel), 0, 0)
	if g := ran(parsed(t, "zero r0 0\nret r0\n"), c); g.t.Work != 5000 || g.t.Steps != 5000 || !sameState(g.s, begun(c)) {
		t.Errorf("zero r0 0: %+v", g)
	}
	if g := ran(parsed(t, "add r1 r1 r2\njump 0\n"), c); g.t.Work != 2500 || g.s.L[1] != number(101+2500*102) || g.s.At != 0 {
		t.Errorf("add r1 r1 r2, jump 0: %+v", g)
	}
	if g := ran(parsed(t, "add r1 r1 r2\njump 0\n"), withFuel(c, 4999)); g.t.Work != 2500 || g.s.L[1] != number(101+2500*102) || g.s.At != 1 {
		t.Errorf("add r1 r1 r2, jump 0: %+v", g)
	}
}

// P8.2: a run that ends with its last step of fuel, and the same with a step less: the step isn't done.
func TestLastStep(t *testing.T) {
	for _, n := range []int{1, 2, 3, 50, api.MaxIns} {
		c := some(n)
		s := begun(c)
		s.At = n - 1
		if n > 1 {
			s.L[3] = number(104)
		}
		if g := ran(long(n), c); !same(g, told{t: api.Trace{Out: api.Outcome{How: api.Done, Value: s.L[3].V, Heap: row(4)}, Steps: n, Work: 1}, s: s}) {
			t.Errorf("%d instructions: %+v", n, g)
		}
		if g := ran(long(n), withFuel(c, n-1)); !same(g, told{t: api.Trace{Steps: n - 1}, s: s}) {
			t.Errorf("%d instructions, a step less: %+v", n, g)
		}
	}
	// Two steps, three in each of 1665 rounds, and three at the end: 5000.
	count := parsed(t, "const r6 1\njump 2\nzero r7 5\nsub r7 r7 r6\njump 2\nmov s0 r7\nret r6\n")
	c := withReg(some(api.MaxFuel), 7, 1665)
	if g := ran(count, c); g.t.Out.How != api.Done || g.t.Out.Value != 1 || g.t.Steps != 5000 || g.t.Work != 2*1665+2 {
		t.Errorf("5000 steps: %+v", g)
	}
	if g := ran(count, withFuel(c, 4999)); g.t.Out.How != api.Runs || g.t.Steps != 4999 || g.t.Work != 2*1665+1 || g.s.At != 6 || len(g.t.Out.Heap) != 0 {
		t.Errorf("4999 steps: %+v", g)
	}
	if g := ran(count, withReg(c, 7, 1666)); g.t.Out.How != api.Runs || g.t.Steps != 5000 || g.t.Out.Value != 0 {
		t.Errorf("5003 steps: %+v", g)
	}
}

// P8.2: of Const, Mov, Swap and Jump no work, of each other operation one, each alone, and where it ends the run.
func TestWork(t *testing.T) {
	for _, v := range []struct {
		line string
		work int
	}{
		{"const r1 5", 0}, {"const s1 5", 0}, {"mov r1 r2", 0}, {"mov r1 s1", 0}, {"mov s1 s2", 0}, {"mov r1 r1", 0}, {"swap r1 r2", 0}, {"swap s1 r2", 0}, {"swap s1 s1", 0}, {"jump 1", 0}, {"jump 2", 0},
		{"add r1 r2 r3", 1}, {"sub r1 r2 r3", 1}, {"mul r1 r2 r3", 1}, {"div r1 r2 r3", 1}, {"and r1 r2 r3", 1}, {"or r1 r2 r3", 1}, {"xor r1 r2 r3", 1},
		{"less r1 r2 r3", 1}, {"same r1 r2 r3", 1}, {"load r1 r0", 1}, {"store r0 r1", 1}, {"call r1 r2 7", 1}, {"zero r0 1", 1}, {"zero r0 2", 1}, {"zero r1 0", 1}, {"zero r1 2", 1},
	} {
		c := withReg(some(1), 0, 0)
		f := parsed(t, v.line+"\nmov r1 r1\nret r6\n")
		if g := ran(f, c); g.e != api.OK || g.t.Steps != 1 || g.t.Work != v.work || g.t.Out.How != api.Runs {
			t.Errorf("%s: %+v", v.line, g)
		}
		c.Fuel = 9
		if g := ran(f, c); g.t.Out.How != api.Done || g.t.Work != v.work+1 {
			t.Errorf("%s, ret: %+v", v.line, g)
		}
	}
	for line, how := range map[string]int{
		"ret r2": api.Done, "div r1 r2 r0": api.ByNil, "load r1 r2": api.Out, "store r2 r1": api.Out, "call r1 r2 7": api.Mute,
		"add r1 r7 r2": api.Undef, "same r1 r2 r7": api.Undef, "load r1 r7": api.Undef, "store r0 r7": api.Undef, "call r1 r7 3": api.Undef, "zero r7 0": api.Undef, "ret r7": api.Undef,
	} {
		c := withReg(some(9), 0, 0)
		c.Answers = nil
		if g := ran(parsed(t, "mov r7 s7\n"+line+"\nret r0\n"), c); g.t.Out.How != how || g.t.Steps != 2 || g.t.Work != 1 || g.s.At != 1 {
			t.Errorf("%s: %+v", line, g)
		}
	}
}

// P8.2: events in the order of their calls, with numbers, arguments and answers, at their borders too.
func TestEvents(t *testing.T) {
	f := parsed(t, "call r1 r0 0\ncall r0 r1 99\nmov s0 r0\ncall r2 r0 7\ncall r2 r2 7\nadd r3 r2 r1\nret r3\n")
	c := withReg(some(9), 0, math.MinInt64)
	c.Answers = []int64{math.MaxInt64, -1, 0, 5, 77}
	events := []api.Event{
		{N: 0, Arg: math.MinInt64, Answer: math.MaxInt64}, {N: 99, Arg: math.MaxInt64, Answer: -1},
		{N: 7, Arg: -1, Answer: 0}, {N: 7, Arg: 0, Answer: 5},
	}
	many := []int{0, 1, 2, 2, 3, 4, 4, 4, 4}
	for fuel, n := range many {
		g := ran(f, withFuel(c, fuel))
		if !slices.Equal(g.t.Events, events[:n]) || g.s.Asked != n || g.t.Steps != min(fuel, 7) {
			t.Errorf("with a fuel of %d: %+v", fuel, g)
		}
	}
	for n := range 5 {
		c.Answers = c.Answers[:n:n]
		g := ran(f, c)
		if !slices.Equal(g.t.Events, events[:n]) || g.s.Asked != n || (g.t.Out.How == api.Mute) != (n < 4) {
			t.Errorf("with %d answers: %+v", n, g)
		}
		c.Answers = []int64{math.MaxInt64, -1, 0, 5, 77}
	}
}

// P8.2: a loop that calls till nobody answers.
func TestTillNobodyAnswers(t *testing.T) {
	f := parsed(t, "call r1 r0 8\nadd r0 r0 r2\njump 0\n")
	for _, n := range []int{0, 1, 2, 3, 17, 255, 256, 257, 1000, 1666} {
		c := api.Case{Answers: row(n), Fuel: api.MaxFuel, R: [8]int64{10, 0, 1}}
		var events []api.Event
		for i := range n {
			events = append(events, api.Event{N: 8, Arg: int64(10 + i), Answer: int64(500 + 7*i)})
		}
		s := begun(c)
		s.L[0], s.Asked = number(int64(10+n)), n
		if n > 0 {
			s.L[1] = number(int64(500 + 7*(n-1)))
		}
		want := told{t: api.Trace{Events: events, Out: api.Outcome{How: api.Mute}, Steps: 3*n + 1, Work: 2*n + 1}, s: s}
		if g := ran(f, c); !same(g, want) {
			t.Errorf("%d answers: %d events, %+v, %d steps, %d of work, %+v", n, len(g.t.Events), g.t.Out, g.t.Steps, g.t.Work, g.s)
		}
	}
	// With a call in each round of three steps, MaxFuel is gone ahead of MaxCalls answers.
	g := ran(f, api.Case{Answers: row(api.MaxCalls), Fuel: api.MaxFuel})
	if g.t.Out.How != api.Runs || len(g.t.Events) != 1667 || g.t.Steps != 5000 || g.s.Asked != 1667 || g.s.At != 2 {
		t.Errorf("MaxCalls answers: %d events, %+v", len(g.t.Events), g.s)
	}
	rows := append(slices.Repeat([]api.Ins{{Op: api.Call, D: 1}}, api.MaxIns-1), api.Ins{Op: api.Jump})
	if g := ran(rows, api.Case{Answers: row(api.MaxCalls), Fuel: api.MaxFuel}); len(g.t.Events) != 4975 || g.t.Events[4974] != (api.Event{Answer: 500 + 7*4974}) || g.t.Work != 4975 {
		t.Errorf("199 calls in a row: %d events", len(g.t.Events))
	}
}

// P8.2: a run is what its steps are, done one by one.
func TestStepByStep(t *testing.T) {
	seen := map[int]int{}
	each(t, append([]int{300}, fuels...), func(f []api.Ins, c api.Case) {
		g := ran(f, c)
		seen[g.t.Out.How]++
		if want := byHand(f, begun(c), c.Answers, c.Fuel); !same(g, want) {
			t.Fatalf("%+v of %+v: %+v; not %+v", f, c, g, want)
		}
	})
	for how := api.Runs; how <= api.Mute; how++ {
		if seen[how] == 0 {
			t.Errorf("no run came to %d", how)
		}
	}
}

// P8.3: with more fuel the events begin with those of less; and a run that ended is the same.
func TestMoreFuel(t *testing.T) {
	each(t, []int{api.MaxFuel / 50}, func(f []api.Ins, c api.Case) {
		less := ran(f, withFuel(c, 0))
		for fuel := 1; fuel <= c.Fuel; fuel += 1 + fuel/8 {
			more := ran(f, withFuel(c, fuel))
			n := len(less.t.Events)
			if len(more.t.Events) < n || !slices.Equal(more.t.Events[:n], less.t.Events) {
				t.Fatalf("%+v of %+v: %v; with a fuel of %d: %v", f, c, less.t.Events, fuel, more.t.Events)
			}
			if less.t.Out.How != api.Runs && !same(less, more) {
				t.Fatalf("%+v of %+v ended: %+v; with a fuel of %d: %+v", f, c, less, fuel, more)
			}
			if more.t.Steps < less.t.Steps || more.t.Work < less.t.Work {
				t.Fatalf("%+v of %+v: %+v; with a fuel of %d: %+v", f, c, less.t, fuel, more.t)
			}
			less = more
		}
	})
}

// P8.4: a run that goes on did as many steps as it had fuel; one that ended, no more.
func TestGoesOn(t *testing.T) {
	each(t, append([]int{api.MaxFuel / 9}, fuels...), func(f []api.Ins, c api.Case) {
		g := ran(f, c)
		if g.t.Steps > c.Fuel || g.t.Out.How == api.Runs && g.t.Steps != c.Fuel || g.t.Work > g.t.Steps || g.t.Work < 0 {
			t.Fatalf("%+v of %+v: %+v", f, c, g)
		}
		if g.t.Out.How != api.Runs && g.t.Work == 0 {
			t.Fatalf("%+v of %+v ended without work: %+v", f, c, g)
		}
		if g.s.Asked != len(g.t.Events) || !step.Right(f, g.s) {
			t.Fatalf("%+v of %+v: %+v", f, c, g)
		}
	})
}

// joined answers the trace of steps, and of more behind them.
func joined(a, b api.Trace) api.Trace {
	return api.Trace{Events: slices.Concat(a.Events, b.Events), Out: b.Out, Steps: a.Steps + b.Steps, Work: a.Work + b.Work}
}

// P8.4: with n and m steps a run is where n steps, and m behind them, lead.
func TestContinued(t *testing.T) {
	each(t, []int{0, 1, 2, 3, 5, 8, 21}, func(f []api.Ins, c api.Case) {
		n := ran(f, c)
		if n.t.Out.How != api.Runs {
			return
		}
		for _, m := range []int{0, 1, 2, 3, 5, 34} {
			on := byHand(f, n.s, c.Answers, m)
			want := told{t: joined(n.t, on.t), s: on.s}
			if g := ran(f, withFuel(c, c.Fuel+m)); !same(g, want) {
				t.Fatalf("%+v of %+v and %d more: %+v; not %+v", f, c, m, g, want)
			}
		}
	})
}

// P8.2 to P8.4: functions put together from all that lines may be, by a rule, and their runs step by step.
func TestManyFunctions(t *testing.T) {
	lines := []string{"const r0 1", "const r1 0", "mov r2 s0", "mov s0 r1", "swap r0 r1", "swap r1 s1", "add r1 r0 r1", "sub r0 r0 r1", "div r1 r0 r2", "load r0 r1", "store r1 r0", "call r2 r0 3", "zero r0 0", "zero r1 4", "zero r2 2", "jump 1", "jump 4", "ret r2", "xor r0 r1 r0"}
	turn := uint32(1)
	for range 3000 {
		text := ""
		for range 5 {
			turn = turn*1664525 + 1013904223
			text += lines[int(turn>>8)%len(lines)] + "\n"
		}
		f := parsed(t, text+"jump 0\n")
		c := api.Case{R: [8]int64{int64(turn >> 28), 2, 1}, Heap: row(3), Answers: row(6), Fuel: int(turn >> 25)}
		if g, want := ran(f, c), byHand(f, begun(c), c.Answers, c.Fuel); !same(g, want) {
			t.Fatalf("%q of %+v: %+v; not %+v", text, c, g, want)
		}
	}
}

// R3: neither the function nor the heap nor the answers are changed, nor what stands ahead of them and behind them.
func TestArgumentsStay(t *testing.T) {
	pad := []api.Ins{{Op: api.Mov}, {Op: api.Mov}}
	ask := func(f []api.Ins, c api.Case) {
		n, h, a := len(f), len(c.Heap), len(c.Answers)
		wholeF := slices.Concat(pad, f, pad)
		wholeH, wholeA := slices.Concat(row(2), c.Heap, row(20)), slices.Concat(row(2), c.Answers, row(3))
		wasF, wasH, wasA := slices.Clone(wholeF), slices.Clone(wholeH), slices.Clone(wholeA)
		c.Heap, c.Answers = wholeH[2:2+h], wholeA[2:2+a]
		run.Right(c)
		run.Begin(c)
		run.Run(wholeF[2:2+n], c)
		if !slices.Equal(wholeF, wasF) || !slices.Equal(wholeH, wasH) || !slices.Equal(wholeA, wasA) {
			t.Fatalf("%+v of %+v changed an argument", f, c)
		}
	}
	each(t, fuels, ask)
	for _, c := range wrongCases() {
		ask(long(3), c)
		ask(wrongFunctions()["too many"], c)
	}
}

// fill writes into all the room of a list, its spare room included.
func fill[T any](l []T, v T) {
	room := l[:cap(l)]
	for i := range room {
		room[i] = v
	}
}

// scrawl writes into all that was answered.
func scrawl(g told) {
	fill(g.s.Heap, -77)
	fill(g.t.Out.Heap, -77)
	fill(g.t.Events, api.Event{N: -77, Arg: -77, Answer: -77})
}

// R3: what is answered shares no memory with an argument, with another answer, or with another list of the same.
func TestAnswersAreNew(t *testing.T) {
	each(t, fuels, func(f []api.Ins, c api.Case) {
		n, m := len(c.Heap), len(c.Answers)
		wholeH, wholeA := slices.Concat(row(2), c.Heap, row(20)), slices.Concat(row(2), c.Answers, row(20))
		wasH, wasA, wasF := slices.Clone(wholeH), slices.Clone(wholeA), slices.Clone(f)
		c.Heap, c.Answers = wholeH[2:2+n], wholeA[2:2+m]
		g, again, want := ran(f, c), ran(f, c), ran(f, c)
		b, other := run.Begin(c), run.Begin(c)
		scrawl(g)
		fill(b.Heap, -77)
		if !slices.Equal(wholeH, wasH) || !slices.Equal(wholeA, wasA) || !slices.Equal(f, wasF) {
			t.Fatalf("%+v of %+v shares memory with an argument", f, c)
		}
		if !same(again, want) || !sameState(other, begun(c)) {
			t.Fatalf("%+v of %+v shares memory with another answer", f, c)
		}
		fill(want.s.Heap, -77)
		if !slices.Equal(again.t.Out.Heap, want.t.Out.Heap) {
			t.Fatalf("%+v of %+v: the state's heap is the outcome's", f, c)
		}
	})
	for what, c := range wrongCases() {
		was := slices.Clone(c.Heap)
		fill(run.Begin(c).Heap, -77)
		if !slices.Equal(c.Heap, was) {
			t.Errorf("%s: the beginning shares the heap", what)
		}
	}
}

// R3: arguments aren't kept: what becomes of them later isn't seen in an answer.
func TestArgumentsAreNotKept(t *testing.T) {
	each(t, fuels, func(f []api.Ins, c api.Case) {
		f = slices.Clone(f)
		want := ran(f, c)
		wantB := run.Begin(c)
		mine := c
		mine.Heap, mine.Answers = slices.Clone(c.Heap), slices.Clone(c.Answers)
		g, b := ran(f, mine), run.Begin(mine)
		fill(mine.Heap, -9)
		fill(mine.Answers, -9)
		fill(f, api.Ins{})
		if !same(g, want) || !sameState(b, wantB) {
			t.Fatalf("an answer, its arguments changed: %+v; not %+v", g, want)
		}
	})
}

// R3: a nil list and an empty one are the same.
func TestNilAndEmpty(t *testing.T) {
	for _, text := range texts() {
		one, other := api.Case{Fuel: 20}, api.Case{Heap: []int64{}, Answers: []int64{}, Fuel: 20}
		if f := parsed(t, text); !same(ran(f, one), ran(f, other)) || run.Right(one) != run.Right(other) || !sameState(run.Begin(one), run.Begin(other)) {
			t.Errorf("%q: %+v, %+v", text, ran(f, one), ran(f, other))
		}
	}
	if !same(ran(nil, some(3)), ran([]api.Ins{}, some(3))) {
		t.Error("a nil function and an empty one")
	}
}

// R1: no call panics, whatever the function and the case.
func TestNoPanic(t *testing.T) {
	ask := func(f []api.Ins, c api.Case) {
		defer func() {
			if p := recover(); p != nil {
				t.Errorf("%d instructions, %+v: %v", len(f), c, p)
			}
		}()
		run.Right(c)
		run.Begin(c)
		run.Run(f, c)
	}
	numbers := []int{math.MinInt, -1, 0, 1, 7, 8, 23, 24, 199, 200, math.MaxInt}
	functions := [][]api.Ins{nil, {}, make([]api.Ins, 300), long(201), long(200), {{Op: api.Jump}}}
	for op := -1; op <= 20; op++ {
		for _, n := range numbers {
			for _, m := range numbers {
				functions = append(functions, []api.Ins{{Op: op, D: n, A: m, B: m, N: int64(n), To: m}, {Op: api.Ret}})
				functions = append(functions, []api.Ins{{Op: op, D: m}, {Op: op, A: m}, {Op: op, B: n, To: m}, {Op: api.Jump}})
			}
		}
	}
	for _, f := range functions {
		for _, fuel := range []int{math.MinInt, -1, 0, 1, 9, api.MaxFuel + 1, math.MaxInt} {
			for _, h := range [][]int64{nil, row(1), row(17)} {
				ask(f, api.Case{Heap: h, Answers: row(2), Fuel: fuel, R: [8]int64{math.MinInt64, -1, math.MaxInt64}})
			}
		}
	}
	for _, c := range wrongCases() {
		ask(long(2), c)
		ask(nil, c)
	}
}

// R4: the same answers, whatever was asked between.
func TestSameAnswerAgain(t *testing.T) {
	var once []told
	each(t, fuels, func(f []api.Ins, c api.Case) {
		once = append(once, ran(f, c))
	})
	i := 0
	each(t, fuels, func(f []api.Ins, c api.Case) {
		ran(long(3), some(2))
		ran(f, withFuel(c, c.Fuel+1))
		if !same(ran(f, c), once[i]) {
			t.Fatalf("another answer of %+v of %+v", f, c)
		}
		i++
	})
}
