package step_test

import (
	"math"
	"slices"
	"testing"

	"joinery/api"
	"joinery/asm"
	"joinery/ins"
	"joinery/step"
)

// told is all that a call of Do answers.
type told struct {
	s      api.State
	events []api.Event
	out    api.Outcome
	e      api.Errno
}

func do(f []api.Ins, s api.State, answers []int64) told {
	behind, events, out, e := step.Do(f, s, answers)
	return told{behind, events, out, e}
}

// sameState: R3, a heap of no words may be nil or empty.
func sameState(a, b api.State) bool {
	return a.L == b.L && slices.Equal(a.Heap, b.Heap) && a.At == b.At && a.Asked == b.Asked
}

func same(a, b told) bool {
	return sameState(a.s, b.s) && slices.Equal(a.events, b.events) && a.e == b.e &&
		a.out.How == b.out.How && a.out.Value == b.out.Value && slices.Equal(a.out.Heap, b.out.Heap)
}

// number answers the word that is a number.
func number(v int64) api.Word { return api.Word{Is: true, V: v} }

// nothing is the word of a place without a number.
var nothing api.Word

// row answers words of which no two are the same, and none is 0.
func row(n int) []int64 {
	var l []int64
	for i := range n {
		l = append(l, int64(500+7*i))
	}
	return l
}

// full answers a state in which each place has a number of its own, and the heap has four words.
func full() api.State {
	s := api.State{Heap: row(4)}
	for l := range s.L {
		s.L[l] = number(int64(100 + l))
	}
	return s
}

// with answers a state with another word at one place.
func with(s api.State, l int, w api.Word) api.State {
	s.L[l] = w
	return s
}

// pad and ret are right wherever they stand.
var (
	pad = api.Ins{Op: api.Mov, D: 3, A: 4}
	ret = api.Ins{Op: api.Ret}
)

// around answers a function of n instructions with x at one place.
func around(x api.Ins, at, n int) []api.Ins {
	f := append(slices.Repeat([]api.Ins{pad}, n-1), ret)
	f[at] = x
	return f
}

// oneOfEach answers an instruction of each Op, by number, with To 2 where there is one.
func oneOfEach() []api.Ins {
	l := []api.Ins{
		{Op: api.Const, D: 1, N: -4}, {Op: api.Mov, D: 1, A: 9}, {Op: api.Swap, D: 1, A: 9},
	}
	for op := api.Add; op <= api.Same; op++ {
		l = append(l, api.Ins{Op: op, D: 1, A: 2, B: 3})
	}
	return append(l,
		api.Ins{Op: api.Load, D: 1, A: 2}, api.Ins{Op: api.Store, A: 2, B: 3}, api.Ins{Op: api.Call, D: 1, A: 2, N: 7},
		api.Ins{Op: api.Jump, To: 2}, api.Ins{Op: api.Zero, A: 2, To: 2}, api.Ins{Op: api.Ret, A: 2},
	)
}

// zeroResults: P7.1, R2: beside ErrArg there is nothing else.
func zeroResults(t *testing.T, what string, f []api.Ins, s api.State) {
	t.Helper()
	if step.Right(f, s) {
		t.Errorf("%s: Right", what)
	}
	for _, answers := range [][]int64{nil, {}, {9}, row(40)} {
		g := do(f, s, answers)
		if g.e != 1 || !same(g, told{e: api.ErrArg}) || len(g.events) != 0 || cap(g.s.Heap) != 0 || cap(g.out.Heap) != 0 {
			t.Fatalf("%s: %+v", what, g)
		}
	}
}

// right: a state that is, and of which Do tells no error.
func right(t *testing.T, what string, f []api.Ins, s api.State) {
	t.Helper()
	if !step.Right(f, s) {
		t.Errorf("%s: not Right", what)
	}
	if g := do(f, s, row(2)); g.e != 0 {
		t.Fatalf("%s: %+v", what, g)
	}
}

// P7.1: functions that aren't right, each fault alone.
func TestRightOfFunctions(t *testing.T) {
	for what, f := range map[string][]api.Ins{
		"nil":                   nil,
		"none":                  {},
		"no end":                {pad},
		"no end behind a ret":   {ret, pad},
		"zero at the end":       {pad, {Op: api.Zero, To: 0}},
		"no Op":                 {{}, ret},
		"an Op of 19":           {{Op: 19}, ret},
		"an Op of -1":           {ret, {Op: -1}, ret},
		"a field to spare":      {pad, {Op: api.Ret, D: 1}},
		"a slot that is needed": {{Op: api.Ret, A: api.Regs}},
		"no place":              {{Op: api.Mov, A: api.Locs}, ret},
		"a place below 0":       {{Op: api.Swap, D: -1}, ret},
		"a far place":           {{Op: api.Mov, A: math.MaxInt, D: math.MinInt}, ret},
		"a call too high":       {{Op: api.Call, N: api.MaxCall + 1}, ret},
		"a jump to nowhere":     {pad, {Op: api.Jump, To: 2}},
		"a jump below 0":        {{Op: api.Zero, To: -1}, ret},
		"too many":              around(pad, 0, api.MaxIns+1),
		"a fault far behind":    around(api.Ins{Op: api.Jump, To: 200}, 198, api.MaxIns),
	} {
		zeroResults(t, what, f, full())
		zeroResults(t, what, f, api.State{})
	}
	for _, f := range [][]api.Ins{{ret}, {{Op: api.Jump}}, {pad, ret}, {ret, ret}, around(pad, 0, api.MaxIns), around(ret, 0, 9)} {
		right(t, "a right function", f, full())
		right(t, "a right function and no words", f, api.State{})
	}
}

// P7.1: At of each place of a function, and beside them.
func TestRightOfAt(t *testing.T) {
	for _, n := range []int{1, 2, 3, 17, api.MaxIns - 1, api.MaxIns} {
		f := around(ret, 0, n)
		s := full()
		for s.At = range n {
			right(t, "At of a place", f, s)
		}
		for _, at := range []int{-1, n, -2, -n, n + 1, 2 * n, 256 + n - 1, api.MaxIns, 1 << 16, math.MaxInt32, math.MinInt, math.MaxInt} {
			s.At = at
			zeroResults(t, "At of none", f, s)
		}
	}
}

// P7.1: heaps of all lengths.
func TestRightOfHeaps(t *testing.T) {
	f := []api.Ins{pad, ret}
	for n := range 40 {
		s := full()
		s.Heap = row(n)
		if n <= 16 {
			right(t, "a heap", f, s)
		} else {
			zeroResults(t, "a heap too long", f, s)
		}
	}
	s := full()
	for _, h := range [][]int64{nil, {}, make([]int64, 16), row(40)[:16], {math.MinInt64, math.MaxInt64, 0}} {
		s.Heap = h
		right(t, "a heap", f, s)
	}
	for _, h := range [][]int64{make([]int64, 17), make([]int64, 256), make([]int64, 1<<16)} {
		s.Heap = h
		zeroResults(t, "a heap too long", f, s)
	}
}

// P7.1: a word that Is not has V 0, at each place: the first, those between, and the last, whether an instruction needs it or not.
func TestRightOfWords(t *testing.T) {
	for _, x := range oneOfEach() {
		f := around(x, 0, 3)
		if x.Op == api.Ret || x.Op == api.Jump {
			f = around(x, 0, 4)
		}
		for l := range api.Locs {
			for _, v := range []int64{1, -1, 2, 1 << 32, math.MinInt64, math.MaxInt64} {
				right(t, "a number", f, with(full(), l, number(v)))
				right(t, "a number alone", f, with(api.State{}, l, number(v)))
				zeroResults(t, "no number, but a V", f, with(full(), l, api.Word{V: v}))
				zeroResults(t, "no number, but a V, alone", f, with(api.State{}, l, api.Word{V: v}))
			}
			right(t, "0", f, with(full(), l, number(0)))
			right(t, "nothing", f, with(full(), l, nothing))
			right(t, "0 alone", f, with(api.State{}, l, number(0)))
		}
	}
}

// P7.1: Asked isn't below 0, and may be more than any list of answers has.
func TestRightOfAsked(t *testing.T) {
	for _, x := range []api.Ins{pad, {Op: api.Call, D: 1, A: 2}, ret} {
		f := around(x, 0, 2)
		s := full()
		for _, asked := range []int{0, 1, 2, 3, api.MaxCalls, api.MaxCalls + 1, math.MaxInt32, math.MaxInt} {
			s.Asked = asked
			right(t, "Asked", f, s)
		}
		for _, asked := range []int{-1, -2, -api.MaxCalls, -1 << 31, math.MinInt} {
			s.Asked = asked
			zeroResults(t, "Asked below 0", f, s)
		}
	}
}

// parsed answers the function of a line and of two more.
func parsed(t *testing.T, line string) []api.Ins {
	t.Helper()
	f, _, e := asm.Parse(line + "\nmov r1 r1\nret r1\n")
	if e != api.OK {
		t.Fatal(line, e)
	}
	return f
}

// P7.1: the chapter's examples.
func TestExamples(t *testing.T) {
	var s api.State
	s.L[3] = number(4)
	if g := do(parsed(t, "add r1 r2 r3"), s, nil); !same(g, told{s: s, out: api.Outcome{How: api.Undef}}) {
		t.Errorf("add r1 r2 r3: %+v", g)
	}
	s.L[2] = number(5)
	want := told{s: with(s, 1, number(9)), events: []api.Event{{N: 7, Arg: 5, Answer: 9}}}
	want.s.At, want.s.Asked = 1, 1
	if g := do(parsed(t, "call r1 r2 7"), s, []int64{9}); !same(g, want) {
		t.Errorf("call r1 r2 7: %+v", g)
	}
}

// goesOn: a step of x, at each place of a function, makes of s a state with these words, this heap and this Asked, with At one more.
func goesOn(t *testing.T, x api.Ins, s api.State, answers []int64, l [api.Locs]api.Word, h []int64, events ...api.Event) {
	t.Helper()
	for _, n := range []int{3, 6, api.MaxIns} {
		for _, at := range []int{0, n/2 - 1, n - 2} {
			s.At = at
			want := told{s: api.State{L: l, Heap: h, At: at + 1, Asked: s.Asked + len(events)}, events: events}
			if g := do(around(x, at, n), s, answers); !same(g, want) {
				t.Fatalf("%+v at %d of %+v: %+v; not %+v", x, at, s, g, want)
			}
		}
	}
}

// stands: a step of x leaves s as it is, with this outcome, no event, and nothing beside How, at each place of a function.
func stands(t *testing.T, x api.Ins, s api.State, answers []int64, how int) {
	t.Helper()
	for _, n := range []int{3, 6, api.MaxIns} {
		for _, at := range []int{0, n/2 - 1, n - 2} {
			s.At = at
			g := do(around(x, at, n), s, answers)
			if !same(g, told{s: s, out: api.Outcome{How: how}}) || len(g.events) != 0 || g.out.Heap != nil {
				t.Fatalf("%+v at %d of %+v: %+v; not %d", x, at, s, g, how)
			}
		}
	}
}

// P7.1: Const of each place, whatever stood there.
func TestConst(t *testing.T) {
	for d := range api.Locs {
		for _, n := range []int64{0, 1, -1, 5, 1 << 32, math.MinInt64, math.MaxInt64} {
			for _, s := range []api.State{full(), {}, with(full(), d, nothing)} {
				l := s.L
				l[d] = number(n)
				goesOn(t, api.Ins{Op: api.Const, D: d, N: n}, s, nil, l, s.Heap)
			}
		}
	}
}

// someNothing answers states in which the one place, the other, both or none of them have nothing.
func someNothing(one, other int) []api.State {
	return []api.State{
		full(), with(full(), one, nothing), with(full(), other, nothing), with(with(full(), one, nothing), other, nothing),
		with(api.State{}, one, number(7)), with(api.State{}, other, number(0)), {},
	}
}

// P7.1: Mov and Swap of all pairs of places, of words that are nothing too.
func TestMovAndSwap(t *testing.T) {
	for d := range api.Locs {
		for a := range api.Locs {
			for _, s := range someNothing(d, a) {
				moved, swapped := s.L, s.L
				moved[d] = s.L[a]
				swapped[d], swapped[a] = s.L[a], s.L[d]
				f, g := around(api.Ins{Op: api.Mov, D: d, A: a}, 0, 2), around(api.Ins{Op: api.Swap, D: d, A: a}, 0, 2)
				if got := do(f, s, nil); !same(got, told{s: api.State{L: moved, Heap: s.Heap, At: 1}}) {
					t.Errorf("mov %d %d of %+v: %+v", d, a, s, got)
				}
				if got := do(g, s, nil); !same(got, told{s: api.State{L: swapped, Heap: s.Heap, At: 1}}) {
					t.Errorf("swap %d %d of %+v: %+v", d, a, s, got)
				}
			}
		}
	}
	for _, x := range []api.Ins{{Op: api.Mov, D: 8, A: 1}, {Op: api.Mov, D: 1, A: 23}, {Op: api.Mov, D: 22, A: 23}} {
		l := full().L
		l[x.D] = number(int64(100 + x.A))
		goesOn(t, x, full(), row(3), l, row(4))
	}
	for _, x := range []api.Ins{{Op: api.Swap, D: 8, A: 1}, {Op: api.Swap, D: 1, A: 23}, {Op: api.Swap, D: 22, A: 23}} {
		l := full().L
		l[x.D], l[x.A] = number(int64(100+x.A)), number(int64(100+x.D))
		goesOn(t, x, full(), row(3), l, row(4))
	}
}

// P7.1: arithmetic, written out.
func TestArithmetic(t *testing.T) {
	for _, c := range []struct {
		op         int
		a, b, want int64
	}{
		{api.Add, 5, 3, 8}, {api.Add, math.MaxInt64, 1, math.MinInt64},
		{api.Sub, 5, 3, 2}, {api.Sub, 3, 5, -2}, {api.Sub, math.MinInt64, 1, math.MaxInt64},
		{api.Mul, 5, -3, -15}, {api.Mul, 1 << 32, 1 << 32, 0},
		{api.Div, -7, 2, -3}, {api.Div, 7, -2, -3}, {api.Div, 0, 5, 0}, {api.Div, math.MinInt64, -1, math.MinInt64},
		{api.And, 12, 10, 8}, {api.Or, 12, 10, 14}, {api.Xor, 12, 10, 6}, {api.Xor, -1, 0, -1},
		{api.Less, 1, 2, 1}, {api.Less, 2, 2, 0}, {api.Less, 3, 2, 0}, {api.Less, -1, 0, 1},
		{api.Same, 2, 2, 1}, {api.Same, 2, 3, 0}, {api.Same, 0, 0, 1},
	} {
		for _, x := range []api.Ins{{Op: c.op, D: 1, A: 2, B: 3}, {Op: c.op, D: 2, A: 2, B: 3}, {Op: c.op, D: 3, A: 2, B: 3}, {Op: c.op, D: 0, A: 7, B: 6}} {
			s := with(with(full(), x.A, number(c.a)), x.B, number(c.b))
			l := s.L
			l[x.D] = number(c.want)
			goesOn(t, x, s, row(1), l, s.Heap)
			s = with(with(api.State{}, x.A, number(c.a)), x.B, number(c.b))
			l = s.L
			l[x.D] = number(c.want)
			goesOn(t, x, s, nil, l, nil)
		}
	}
	s := full()
	l := s.L
	l[7] = number(104 * 104)
	goesOn(t, api.Ins{Op: api.Mul, D: 7, A: 4, B: 4}, s, nil, l, s.Heap)
}

// P7.1: a division by 0, also of 0, and where D is one of the two.
func TestByNil(t *testing.T) {
	for _, a := range []int64{0, 1, -1, 7, math.MinInt64, math.MaxInt64} {
		for _, x := range []api.Ins{{Op: api.Div, D: 1, A: 2, B: 3}, {Op: api.Div, D: 2, A: 2, B: 3}, {Op: api.Div, D: 3, A: 2, B: 3}} {
			stands(t, x, with(with(full(), 2, number(a)), 3, number(0)), row(2), 3)
			stands(t, x, with(with(api.State{}, 2, number(a)), 3, number(0)), nil, api.ByNil)
		}
	}
	stands(t, api.Ins{Op: api.Div, D: 1, A: 3, B: 3}, with(full(), 3, number(0)), nil, api.ByNil)
}

// P7.1: each word of heaps of all lengths.
func TestLoadAndStore(t *testing.T) {
	for n := range api.MaxHeap + 1 {
		for at := range n {
			s := with(full(), 2, number(int64(at)))
			s.Heap = row(n)
			l := s.L
			l[1] = number(int64(500 + 7*at))
			goesOn(t, api.Ins{Op: api.Load, D: 1, A: 2}, s, nil, l, row(n))
			l = s.L
			l[2] = number(int64(500 + 7*at))
			goesOn(t, api.Ins{Op: api.Load, D: 2, A: 2}, s, nil, l, row(n))

			h := row(n)
			h[at] = 103
			goesOn(t, api.Ins{Op: api.Store, A: 2, B: 3}, s, nil, s.L, h)
			h[at] = int64(at)
			goesOn(t, api.Ins{Op: api.Store, A: 2, B: 2}, s, nil, s.L, h)
		}
	}
	s := with(with(full(), 5, number(1)), 6, number(0))
	s.Heap = []int64{4, 0, 5}
	l := s.L
	l[7] = number(0)
	goesOn(t, api.Ins{Op: api.Load, D: 7, A: 5}, s, nil, l, s.Heap)
	goesOn(t, api.Ins{Op: api.Store, A: 6, B: 5}, s, nil, s.L, []int64{1, 0, 5})
}

// P7.1: no such word: behind the last, below 0, far off, and of a heap without words.
func TestOut(t *testing.T) {
	for n := range api.MaxHeap + 1 {
		for _, at := range []int64{int64(n), -1, int64(n) + 1, 16, 17, -int64(n) - 1, 1 << 32, 1<<32 + 1, math.MinInt64, math.MaxInt64} {
			s := with(full(), 2, number(at))
			s.Heap = row(n)
			stands(t, api.Ins{Op: api.Load, D: 1, A: 2}, s, row(2), 4)
			stands(t, api.Ins{Op: api.Load, D: 2, A: 2}, s, nil, api.Out)
			stands(t, api.Ins{Op: api.Store, A: 2, B: 3}, s, row(2), api.Out)
			stands(t, api.Ins{Op: api.Store, A: 2, B: 2}, s, nil, api.Out)
		}
	}
	s := with(full(), 2, number(0))
	for _, h := range [][]int64{nil, {}, row(3)[:0]} {
		s.Heap = h
		stands(t, api.Ins{Op: api.Load, D: 1, A: 2}, s, nil, api.Out)
		stands(t, api.Ins{Op: api.Store, A: 2, B: 3}, s, nil, api.Out)
	}
	s.Heap = row(9)[:4]
	s.L[2] = number(4)
	stands(t, api.Ins{Op: api.Load, D: 1, A: 2}, s, nil, api.Out)
	stands(t, api.Ins{Op: api.Store, A: 2, B: 3}, s, nil, api.Out)
}

// P7.1: a call gets the answer whose number is Asked; of as many, and of more, nobody answers.
func TestCall(t *testing.T) {
	for _, many := range []int{0, 1, 2, 3, 7, api.MaxCalls, api.MaxCalls + 1} {
		answers := row(many)
		for _, asked := range []int{0, 1, 2, many - 2, many - 1, many, many + 1, api.MaxCalls, math.MaxInt - 1, math.MaxInt} {
			if asked < 0 {
				continue
			}
			s := full()
			s.Asked = asked
			for _, x := range []api.Ins{{Op: api.Call, D: 1, A: 2, N: 7}, {Op: api.Call, D: 2, A: 2}, {Op: api.Call, D: 0, A: 7, N: api.MaxCall}} {
				if asked >= many {
					stands(t, x, s, answers, 5)
					continue
				}
				v := int64(500 + 7*asked)
				l := s.L
				l[x.D] = number(v)
				goesOn(t, x, s, answers, l, row(4), api.Event{N: x.N, Arg: int64(100 + x.A), Answer: v})
			}
		}
	}
	for _, v := range []int64{0, -1, math.MinInt64, math.MaxInt64} {
		s := with(with(full(), 1, nothing), 2, number(v))
		l := s.L
		l[1] = number(v)
		goesOn(t, api.Ins{Op: api.Call, D: 1, A: 2, N: 7}, s, []int64{v, 4}, l, row(4), api.Event{N: 7, Arg: v, Answer: v})
	}
}

// P7.1: room behind the answers has none.
func TestSpareRoomIsNoAnswer(t *testing.T) {
	s := full()
	s.Asked = 2
	stands(t, api.Ins{Op: api.Call, D: 1, A: 2}, s, row(5)[:2], api.Mute)
}

// P7.1: each way of a Zero and of a Jump, to each place of a function, to itself too.
func TestJumpAndZero(t *testing.T) {
	for _, n := range []int{2, 3, 9, api.MaxIns} {
		for at := range n - 1 {
			for _, to := range []int{0, 1, n / 2, at, at + 1, n - 2, n - 1} {
				s := full()
				s.At, s.Asked = at, 3
				there, next := s, s
				there.At, next.At = to, at+1
				for _, v := range []struct {
					x    api.Ins
					word int64
					want api.State
				}{
					{api.Ins{Op: api.Jump, To: to}, 0, there}, {api.Ins{Op: api.Jump, To: to}, 5, there},
					{api.Ins{Op: api.Zero, To: to}, 0, there}, {api.Ins{Op: api.Zero, To: to}, 1, next}, {api.Ins{Op: api.Zero, To: to}, -1, next},
					{api.Ins{Op: api.Zero, To: to}, 1 << 32, next}, {api.Ins{Op: api.Zero, To: to}, math.MinInt64, next}, {api.Ins{Op: api.Zero, To: to}, math.MaxInt64, next},
				} {
					if g := do(around(v.x, at, n), with(s, 0, number(v.word)), nil); !same(g, told{s: with(v.want, 0, number(v.word))}) {
						t.Errorf("%+v of %d at %d: %+v", v.x, v.word, at, g)
					}
				}
			}
		}
	}
	for a := range api.Regs {
		s := with(full(), a, number(0))
		for other := range api.Regs {
			want := s
			want.At = 2
			if other != a {
				want.At = 1
			}
			if g := do(around(api.Ins{Op: api.Zero, A: other, To: 2}, 0, 3), s, nil); !same(g, told{s: want}) {
				t.Errorf("zero of %d where %d is 0: %+v", other, a, g)
			}
		}
	}
	f := []api.Ins{pad, {Op: api.Jump, To: 0}}
	s := full()
	s.At = 1
	if g := do(f, s, nil); !same(g, told{s: full()}) {
		t.Errorf("a jump at the end: %+v", g)
	}
}

// P7.1: Ret is done, with the value and the heap, and leaves the state as it is.
func TestRet(t *testing.T) {
	for n := range api.MaxHeap + 1 {
		for a := range api.Regs {
			for _, v := range []int64{0, 1, -1, math.MinInt64, math.MaxInt64} {
				s := with(full(), a, number(v))
				s.Heap, s.Asked, s.At = row(n), 3, n
				for _, f := range [][]api.Ins{around(api.Ins{Op: api.Ret, A: a}, n, n+1), around(api.Ins{Op: api.Ret, A: a}, n, api.MaxIns)} {
					if g := do(f, s, row(9)); !same(g, told{s: s, out: api.Outcome{How: 1, Value: v, Heap: row(n)}}) || len(g.events) != 0 {
						t.Errorf("ret %d of %+v: %+v", a, s, g)
					}
				}
			}
		}
	}
}

// P7.1: each place whose number is needed has nothing, alone and all of them; and none of it is Undef where others have nothing.
func TestUndef(t *testing.T) {
	for _, x := range oneOfEach() {
		uses := ins.Uses(x)
		var needed, none api.State
		needed.Heap = row(4)
		for _, l := range uses {
			needed.L[l] = number(2)
			stands(t, x, with(full(), l, nothing), row(3), 2)
			none = with(none, l, nothing)
		}
		if len(uses) > 0 {
			stands(t, x, none, row(3), api.Undef)
			stands(t, x, none, nil, api.Undef)
		}
		if g := do(around(x, 0, 4), needed, row(3)); g.e != api.OK || g.out.How == api.Undef {
			t.Errorf("%+v with nothing but what it needs: %+v", x, g)
		}
	}
	for a := range api.Regs {
		for b := range api.Regs {
			s := with(full(), a, nothing)
			stands(t, api.Ins{Op: api.Add, D: 1, A: a, B: b}, s, nil, api.Undef)
			stands(t, api.Ins{Op: api.Add, D: 1, A: b, B: a}, s, nil, api.Undef)
			stands(t, api.Ins{Op: api.Store, A: b, B: a}, s, nil, api.Undef)
		}
		stands(t, api.Ins{Op: api.Ret, A: a}, with(full(), a, nothing), nil, api.Undef)
		stands(t, api.Ins{Op: api.Zero, A: a}, with(full(), a, nothing), nil, api.Undef)
	}
}

// P7.1: what each Op needs, written out: with nothing there it is Undef, and so it isn't where any other place has nothing.
func TestWhatIsNeeded(t *testing.T) {
	needs := map[int][]int{api.Load: {2}, api.Store: {2, 3}, api.Call: {2}, api.Zero: {2}, api.Ret: {2}}
	for op := api.Add; op <= api.Same; op++ {
		needs[op] = []int{2, 3}
	}
	for _, x := range oneOfEach() {
		for l := range api.Locs {
			s := with(with(full(), 2, number(1)), l, nothing)
			g := do(around(x, 0, 4), s, row(1))
			if undef := g.out.How == 2; undef != slices.Contains(needs[x.Op], l) || g.e != api.OK {
				t.Errorf("%+v without a number at %d: %+v", x, l, g)
			}
		}
	}
}

// P7.1: where more could be told, it is Undef.
func TestUndefIsFirst(t *testing.T) {
	empty := api.State{}
	stands(t, api.Ins{Op: api.Div, D: 1, A: 2, B: 3}, with(empty, 3, number(0)), nil, api.Undef)
	stands(t, api.Ins{Op: api.Div, D: 1, A: 2, B: 3}, with(empty, 2, number(1)), nil, api.Undef)
	stands(t, api.Ins{Op: api.Div, D: 1, A: 2, B: 2}, empty, nil, api.Undef)
	stands(t, api.Ins{Op: api.Load, D: 1, A: 2}, empty, nil, api.Undef)
	stands(t, api.Ins{Op: api.Store, A: 2, B: 3}, empty, nil, api.Undef)
	for _, at := range []int64{0, 4, -1, math.MinInt64, math.MaxInt64} {
		stands(t, api.Ins{Op: api.Store, A: 2, B: 3}, with(empty, 2, number(at)), nil, api.Undef)
		stands(t, api.Ins{Op: api.Store, A: 2, B: 3}, with(with(full(), 2, number(at)), 3, nothing), nil, api.Undef)
	}
	for _, asked := range []int{0, 1, 2, math.MaxInt} {
		s := with(full(), 2, nothing)
		s.Asked = asked
		stands(t, api.Ins{Op: api.Call, D: 1, A: 2}, s, nil, api.Undef)
		stands(t, api.Ins{Op: api.Call, D: 1, A: 2}, s, row(1), api.Undef)
	}
}

// words are numbers for which something else comes of one Op or another, and nothing.
func words() []api.Word {
	return []api.Word{nothing, number(0), number(1), number(-1), number(3), number(4), number(math.MinInt64), number(math.MaxInt64)}
}

// each hands over steps of all Ops, with all of words at what they need and at D, of heaps and answers of several lengths.
func each(hand func(f []api.Ins, s api.State, answers []int64)) {
	for _, x := range oneOfEach() {
		for _, a := range words() {
			for _, b := range words() {
				for _, d := range words()[:3] {
					for n := range 5 {
						s := with(with(with(full(), 2, a), 3, b), 1, d)
						s.L[9], s.L[15] = a, b
						s.Heap, s.At, s.Asked = row(4*n), n, n/2
						hand(around(x, n, n+4), s, row(n))
						hand(around(x, n, n+9), s, row(n+1))
					}
				}
			}
		}
	}
}

// P7.2: what a step makes of a state is right again, for the same function; and so is what comes of that, on and on.
func TestRightAgain(t *testing.T) {
	each(func(f []api.Ins, s api.State, answers []int64) {
		for range 3 {
			g := do(f, s, answers)
			if g.e != api.OK || !step.Right(f, g.s) {
				t.Fatalf("%+v of %+v: %+v isn't right", f[s.At], s, g)
			}
			s = g.s
		}
	})
	f := parsed(t, "swap s15 r7\nconst r6 0\nmov s0 s15\nzero r6 0")
	s := with(api.State{}, 0, number(1))
	for range 9 {
		g := do(f, s, nil)
		if g.e != api.OK || !step.Right(f, g.s) {
			t.Fatalf("of %+v: %+v isn't right", s, g)
		}
		s = g.s
	}
}

// P7.3: what only moves makes no event, changes no heap, asks nobody, and never ends.
func TestMovesOnly(t *testing.T) {
	each(func(f []api.Ins, s api.State, answers []int64) {
		if !ins.Moves(f[s.At]) {
			return
		}
		g := do(f, s, answers)
		if len(g.events) != 0 || !slices.Equal(g.s.Heap, s.Heap) || g.s.Asked != s.Asked || g.e != api.OK ||
			g.out.How != api.Runs || g.out.Value != 0 || len(g.out.Heap) != 0 {
			t.Fatalf("%+v of %+v: %+v", f[s.At], s, g)
		}
	})
}

// P7.4: words that an instruction neither needs nor sets stay, and what it only needs, too.
func TestOthersStay(t *testing.T) {
	each(func(f []api.Ins, s api.State, answers []int64) {
		x, g := f[s.At], do(f, s, answers)
		for l, w := range g.s.L {
			set := l == x.D && x.Op <= api.Call && x.Op != api.Store || l == x.A && x.Op == api.Swap
			if !set && w != s.L[l] {
				t.Fatalf("%+v of %+v: %+v at %d", x, s, w, l)
			}
		}
	})
	for _, x := range oneOfEach() {
		for l := range api.Locs {
			if l == x.D || l == x.A || l == x.B {
				continue
			}
			for _, w := range words() {
				s := with(with(full(), 2, number(1)), l, w)
				if g := do(around(x, 0, 4), s, row(1)); g.s.L[l] != w {
					t.Errorf("%+v: %+v at %d, not %+v", x, g.s.L[l], l, w)
				}
			}
		}
	}
}

// P7.1: of all outcomes but Done the value is 0 and there is no heap; the state is s unless it runs on; only a call that was answered is an event, and only that asks.
func TestOutcomes(t *testing.T) {
	seen := map[int]int{}
	each(func(f []api.Ins, s api.State, answers []int64) {
		x, g := f[s.At], do(f, s, answers)
		seen[g.out.How]++
		if done := g.out.How == api.Done; done != (x.Op == api.Ret && s.L[2].Is) || done && (g.out.Value != s.L[2].V || !slices.Equal(g.out.Heap, s.Heap)) ||
			!done && (g.out.Value != 0 || len(g.out.Heap) != 0) {
			t.Fatalf("%+v of %+v: %+v", x, s, g.out)
		}
		if g.out.How != api.Runs && !sameState(g.s, s) {
			t.Fatalf("%+v of %+v ended, but: %+v", x, s, g.s)
		}
		called := 0
		if x.Op == api.Call && g.out.How == api.Runs {
			called = 1
		}
		if len(g.events) != called || g.s.Asked != s.Asked+called {
			t.Fatalf("%+v of %+v: %v, asked %d", x, s, g.events, g.s.Asked)
		}
		if x.Op != api.Store && !slices.Equal(g.s.Heap, s.Heap) {
			t.Fatalf("%+v of %+v: %v", x, s, g.s.Heap)
		}
	})
	for how := api.Runs; how <= api.Mute; how++ {
		if seen[how] == 0 {
			t.Errorf("no step came to %d", how)
		}
	}
}

// R3: neither the function nor the heap nor the answers are changed, nor what stands ahead of them and behind them.
func TestArgumentsStay(t *testing.T) {
	each(func(f []api.Ins, s api.State, answers []int64) {
		n, m := len(s.Heap), len(answers)
		wholeF := slices.Concat([]api.Ins{pad}, f, []api.Ins{pad, pad})
		wholeH, wholeA := slices.Concat(row(2), s.Heap, row(20)), slices.Concat(row(2), answers, row(3))
		wasF, wasH, wasA := slices.Clone(wholeF), slices.Clone(wholeH), slices.Clone(wholeA)
		s.Heap = wholeH[2 : 2+n]
		step.Right(wholeF[1:1+len(f)], s)
		do(wholeF[1:1+len(f)], s, wholeA[2:2+m])
		if !slices.Equal(wholeF, wasF) || !slices.Equal(wholeH, wasH) || !slices.Equal(wholeA, wasA) {
			t.Fatalf("%+v of %+v changed an argument", f[s.At], s)
		}
	})
	s := full()
	s.Heap = row(17)
	f, answers := around(api.Ins{Op: api.Store}, 0, 2), row(2)
	do(f, s, answers)
	if !slices.Equal(f, around(api.Ins{Op: api.Store}, 0, 2)) || !slices.Equal(s.Heap, row(17)) || !slices.Equal(answers, row(2)) {
		t.Error("an argument that isn't right was changed")
	}
}

// scrawl writes into all the room of what was answered, its spare room included.
func scrawl(g told) {
	for _, h := range [][]int64{g.s.Heap, g.out.Heap} {
		room := h[:cap(h)]
		for i := range room {
			room[i] = -77
		}
	}
	room := g.events[:cap(g.events)]
	for i := range room {
		room[i] = api.Event{N: -77, Arg: -77, Answer: -77}
	}
}

// R3: what is answered shares no memory with an argument, with another answer, or with another list of the same.
func TestAnswersAreNew(t *testing.T) {
	each(func(f []api.Ins, s api.State, answers []int64) {
		n := len(s.Heap)
		wholeH := slices.Concat(row(2), s.Heap, row(20))
		wasH, wasA, wasF := slices.Clone(wholeH), slices.Clone(answers), slices.Clone(f)
		s.Heap = wholeH[2 : 2+n]
		g, again, want := do(f, s, answers), do(f, s, answers), do(f, s, answers)
		scrawl(g)
		if !slices.Equal(wholeH, wasH) || !slices.Equal(answers, wasA) || !slices.Equal(f, wasF) {
			t.Fatalf("%+v of %+v shares memory with an argument", f[s.At], s)
		}
		if !same(again, want) {
			t.Fatalf("%+v of %+v shares memory with another answer", f[s.At], s)
		}
		further := do(f, again.s, answers)
		kept := do(f, again.s, answers)
		scrawl(again)
		if !same(further, kept) {
			t.Fatalf("%+v of %+v shares memory with its answer", f[s.At], s)
		}
		for i := range want.s.Heap {
			was := slices.Clone(want.out.Heap)
			want.s.Heap[i]++
			if !slices.Equal(want.out.Heap, was) {
				t.Fatalf("%+v of %+v: the state's heap is the outcome's", f[s.At], s)
			}
		}
	})
}

// R3: arguments aren't kept: what becomes of them later isn't seen in an answer.
func TestArgumentsAreNotKept(t *testing.T) {
	each(func(f []api.Ins, s api.State, answers []int64) {
		g, want := do(f, s, answers), do(slices.Clone(f), api.State{L: s.L, Heap: slices.Clone(s.Heap), At: s.At, Asked: s.Asked}, slices.Clone(answers))
		clear(s.Heap)
		clear(answers)
		clear(f)
		if !same(g, want) {
			t.Fatalf("an answer, its arguments changed: %+v; not %+v", g, want)
		}
	})
}

// R3: a nil list and an empty one are the same.
func TestNilAndEmpty(t *testing.T) {
	for _, x := range oneOfEach() {
		s := with(full(), 2, number(0))
		s.Heap = nil
		one := do(around(x, 0, 4), s, nil)
		s.Heap = []int64{}
		if other := do(around(x, 0, 4), s, []int64{}); !same(one, other) {
			t.Errorf("%+v: %+v, %+v", x, one, other)
		}
	}
}

// R1: no call panics, whatever the function, the state and the answers.
func TestNoPanic(t *testing.T) {
	ask := func(f []api.Ins, s api.State, answers []int64) {
		defer func() {
			if p := recover(); p != nil {
				t.Errorf("%d instructions, %+v: %v", len(f), s, p)
			}
		}()
		step.Right(f, s)
		do(f, s, answers)
	}
	numbers := []int{math.MinInt, -1, 0, 1, 7, 8, 23, 24, 199, 200, math.MaxInt}
	var functions [][]api.Ins
	for _, n := range numbers {
		for op := -1; op <= 20; op++ {
			for _, m := range numbers {
				functions = append(functions, []api.Ins{{Op: op, D: n, A: m, B: m, N: int64(n), To: m}, ret})
				functions = append(functions, []api.Ins{{Op: op, D: m}, {Op: op, A: m}, {Op: op, B: n, To: m}})
			}
		}
	}
	functions = append(functions, nil, []api.Ins{}, make([]api.Ins, 300), around(pad, 0, 201))
	for _, f := range functions {
		for _, at := range numbers {
			for _, asked := range []int{math.MinInt, -1, 0, 1, math.MaxInt} {
				for _, h := range [][]int64{nil, row(1), row(17)} {
					ask(f, api.State{Heap: h, At: at, Asked: asked}, row(1))
				}
				s := with(full(), 3, api.Word{V: 5})
				s.At, s.Asked = at, asked
				ask(f, s, nil)
				s.L[3].Is = true
				ask(f, s, nil)
			}
		}
	}
}

// R4: the same answers, whatever was asked between.
func TestSameAnswerAgain(t *testing.T) {
	var once []told
	each(func(f []api.Ins, s api.State, answers []int64) {
		once = append(once, do(f, s, answers))
	})
	i := 0
	each(func(f []api.Ins, s api.State, answers []int64) {
		do(f, full(), row(9))
		if !same(do(f, s, answers), once[i]) {
			t.Fatalf("another answer of %+v of %+v", f[s.At], s)
		}
		i++
	})
}
