package path_test

import (
	"math"
	"slices"
	"testing"

	"joinery/api"
	"joinery/asm"
	"joinery/env"
	"joinery/path"
	"joinery/step"
)

// told is all that a call of From answers.
type told struct {
	p path.Path
	e api.Errno
}

func from(f []api.Ins, at int) told {
	p, e := path.From(f, at)
	return told{p, e}
}

// was and is are the two kinds of sources.
func was(l int) env.Source  { return env.Was{Loc: l} }
func is(n int64) env.Source { return env.Is{N: n} }

// first is the first table, written out beside the program.
func first() env.Table {
	var t env.Table
	for l := range 24 {
		t[l] = was(l)
	}
	return t
}

// changed answers the first table with other sources at some places.
func changed(sources map[int]env.Source) env.Table {
	t := first()
	for l, s := range sources {
		t[l] = s
	}
	return t
}

// nowhere is what is told of a place from which no path leads anywhere.
func nowhere() told { return told{path.Path{To: -1, T: first()}, api.OK} }

// stays is what is told of a place whose instruction does more than move.
func stays(at int) told { return told{path.Path{To: at, T: first()}, api.OK} }

// parsed answers the function of a text.
func parsed(t *testing.T, text string) []api.Ins {
	t.Helper()
	f, at, e := asm.Parse(text)
	if e != api.OK {
		t.Fatalf("%q: %d at %d", text, e, at)
	}
	return f
}

// onlyMoves: is it Const, Mov, Swap or Jump?
func onlyMoves(x api.Ins) bool {
	return x.Op == 1 || x.Op == 2 || x.Op == 3 || x.Op == 16
}

// worked is what the chapter's Words say of a right function's place, worked out beside the program: as many steps as there are instructions are followed, and if that does not do, none will.
func worked(f []api.Ins, at int) told {
	g := stays(at)
	for range f {
		x := f[g.p.To]
		if !onlyMoves(x) {
			return g
		}
		d, a := g.p.T[x.D], g.p.T[x.A]
		g.p.To++
		g.p.Steps++
		switch x.Op {
		case 1:
			g.p.T[x.D] = is(x.N)
		case 2:
			g.p.T[x.D] = a
		case 3:
			g.p.T[x.D], g.p.T[x.A] = a, d
		case 16:
			g.p.To = x.To
		}
	}
	if !onlyMoves(f[g.p.To]) {
		return g
	}
	return nowhere()
}

// long answers a function of so many instructions that moves, and ends.
func long(n int) []api.Ins {
	return append(slices.Repeat([]api.Ins{{Op: api.Mov, D: 3, A: 4}}, n-1), api.Ins{Op: api.Ret, A: 3})
}

// oneOfEach are instructions that do more than move, one of each Op, with all that an instruction may name; right in a function of two at least.
func oneOfEach() []api.Ins {
	l := []api.Ins{
		{Op: api.Load, D: 1, A: 2}, {Op: api.Store, A: 1, B: 2}, {Op: api.Call, D: 1, A: 2, N: 7}, {Op: api.Zero, A: 1, To: 1}, {Op: api.Ret, A: 1},
	}
	for op := api.Add; op <= api.Same; op++ {
		l = append(l, api.Ins{Op: op, D: 1, A: 2, B: 3})
	}
	return l
}

// wrongFunctions are functions that aren't right.
func wrongFunctions() map[string][]api.Ins {
	ret, pad := api.Ins{Op: api.Ret}, api.Ins{Op: api.Mov, D: 3, A: 4}
	return map[string][]api.Ins{
		"nil":                             nil,
		"none":                            {},
		"no end":                          {pad},
		"no end behind a ret":             {ret, pad},
		"const at the end":                {ret, {Op: api.Const, N: 5}},
		"swap at the end":                 {ret, {Op: api.Swap, A: 5}},
		"zero at the end":                 {pad, {Op: api.Zero, To: 0}},
		"add at the end":                  {{Op: api.Add}},
		"no Op":                           {{}, ret},
		"an Op of 19":                     {{Op: 19}, ret},
		"an Op of -1":                     {ret, {Op: -1}, ret},
		"an Op far away":                  {{Op: math.MaxInt}, {Op: math.MinInt}, ret},
		"a field to spare":                {pad, {Op: api.Ret, D: 1}},
		"a jump with a place":             {{Op: api.Jump, D: 1, To: 0}},
		"a const with a place too many":   {{Op: api.Const, D: 1, A: 1}, ret},
		"a mov with a To":                 {{Op: api.Mov, To: 1}, ret},
		"a slot that is needed":           {{Op: api.Ret, A: api.Regs}},
		"no place":                        {{Op: api.Mov, A: api.Locs}, ret},
		"a place below 0":                 {{Op: api.Swap, D: -1}, ret},
		"a place far away":                {{Op: api.Const, D: math.MaxInt}, ret},
		"a call too high":                 {{Op: api.Call, N: api.MaxCall + 1}, ret},
		"a jump to behind the last":       {pad, {Op: api.Jump, To: 2}},
		"a jump to where MaxIns would do": {pad, {Op: api.Jump, To: 199}},
		"a jump to beyond MaxIns":         {pad, {Op: api.Jump, To: 200}},
		"a jump below 0":                  {{Op: api.Jump, To: -1}},
		"a jump far away":                 {{Op: api.Jump, To: math.MaxInt}, {Op: api.Jump, To: math.MinInt}},
		"a zero below 0":                  {{Op: api.Zero, To: -1}, ret},
		"MaxIns and one more":             long(api.MaxIns + 1),
		"MaxIns and one more, all round":  slices.Repeat([]api.Ins{{Op: api.Jump}}, api.MaxIns+1),
		"many":                            long(5000),
		"a fault that no path reaches":    {ret, {Op: api.Jump, To: 3}, ret},
		"a fault ahead of all":            {{Op: api.Const, D: 24}, pad, ret},
		"a fault at the end of a circle":  {{Op: api.Jump, To: 0}, {Op: api.Ret, A: 8}},
	}
}

// rightTexts are functions of all kinds: that end, that go round, that do both.
func rightTexts() []string {
	return []string{
		"ret r0\n",
		"jump 0\n",
		"mov r1 r0\njump 2\nret r1\n",
		"mov r1 r0\njump 0\n",
		"jump 1\njump 2\njump 0\n",
		"jump 2\nret r3\njump 1\n",
		"mov r1 r0\njump 3\nret r1\nconst r0 5\nswap r0 s2\njump 2\n",
		"mov s0 r0\ncall r1 r0 7\nmov r2 s0\nret r2\n",
		"mov s0 r1\nconst r1 5\nswap s0 r2\nret r1\n",
		"mov r1 r0\nzero r1 0\nret r1\n",
		"const r7 3\nconst r6 1\nzero r7 5\nsub r7 r7 r6\njump 2\nmov s15 r0\nmov r1 s15\nret r1\n",
		"zero r0 2\njump 1\nzero r1 2\njump 2\n",
		"zero r0 3\nconst r1 2\njump 1\nmov r2 r1\njump 0\n",
		"swap r0 r1\nswap r1 r2\nswap r2 s0\nswap s0 r0\nload r1 r0\nstore r1 r0\nconst s1 -4\nmov r3 s1\njump 0\n",
		"const r0 1\nconst r0 2\nmov r1 r0\nconst r0 3\nswap r0 r0\nmov r0 r0\njump 9\nmov s3 r0\njump 12\nswap r1 s1\njump 7\nret r7\nret r0\n",
		"jump 4\nconst r5 5\njump 6\nadd r0 r0 r0\nmov r5 r4\njump 1\njump 4\n",
	}
}

// far are numbers that are places of no function.
func far() []int {
	return []int{-1, -2, -200, -256, math.MinInt32, math.MinInt, math.MinInt + 1, 200, 201, 256, 1 << 16, math.MaxInt32, 1 << 32, -1 << 32, math.MaxInt - 1, math.MaxInt}
}

// nothing: P9.1, R2: beside ErrArg there is the zero path alone, with a table of nil.
func nothing(t *testing.T, what string, f []api.Ins, at int) {
	t.Helper()
	p, e := path.From(f, at)
	if e != 1 || p.To != 0 || p.Steps != 0 {
		t.Errorf("%s, from %d: %+v, %d", what, at, p, e)
	}
	for l, s := range p.T {
		if s != nil {
			t.Errorf("%s, from %d: %#v at %d", what, at, s, l)
		}
	}
}

// leads: is what is told of a place what it ought to be?
func leads(t *testing.T, f []api.Ins, at int, to, steps int, table env.Table) {
	t.Helper()
	g := from(f, at)
	if g.e != 0 || g.p.To != to || g.p.Steps != steps {
		t.Errorf("%v, from %d: to %d by %d steps, %d; it ought to be to %d by %d", f, at, g.p.To, g.p.Steps, g.e, to, steps)
	}
	for l := range 24 {
		if g.p.T[l] != table[l] {
			t.Fatalf("%v, from %d: %#v at %d; it ought to be %#v", f, at, g.p.T[l], l, table[l])
		}
	}
}

// P9.1: a function that isn't right, from places that it has and from others.
func TestWrongFunctions(t *testing.T) {
	for what, f := range wrongFunctions() {
		if asm.Right(f) {
			t.Fatalf("%s: it is right", what)
		}
		for at := range len(f) + 2 {
			nothing(t, what, f, at)
		}
		for _, at := range far() {
			nothing(t, what, f, at)
		}
	}
}

// P9.1: places that are none of the function: -1, as many as it has instructions, and far beyond.
func TestWrongPlaces(t *testing.T) {
	fs := [][]api.Ins{long(1), long(2), long(7), long(api.MaxIns - 1), long(api.MaxIns), slices.Repeat([]api.Ins{{Op: api.Jump}}, api.MaxIns)}
	for _, text := range rightTexts() {
		fs = append(fs, parsed(t, text))
	}
	for _, f := range fs {
		nothing(t, "behind the last", f, len(f))
		nothing(t, "one more", f, len(f)+1)
		nothing(t, "below 0, as far as it is long", f, -len(f))
		for _, at := range far() {
			nothing(t, "far", f, at)
		}
		for at := range f {
			if g := from(f, at); g.e != api.OK {
				t.Errorf("%v, from %d: %+v", f, at, g)
			}
		}
	}
}

// P9.1: each place of functions of all lengths, and those about them, whatever room the list has behind its end.
func TestPlacesOfAllLengths(t *testing.T) {
	for n := 1; n <= 200; n++ {
		roomy := slices.Concat(long(n), long(9))[:n]
		for at := -3; at < n+3; at++ {
			if at < 0 || at >= n {
				nothing(t, "long", long(n), at)
				nothing(t, "with room", roomy, at)
				continue
			}
			want := path.Path{To: n - 1, T: first(), Steps: n - 1 - at}
			if at < n-1 {
				want.T[3] = was(4)
			}
			for _, f := range [][]api.Ins{long(n), roomy} {
				if g := from(f, at); g != (told{want, api.OK}) {
					t.Fatalf("%d of %d: %+v", at, n, g)
				}
			}
		}
	}
}

// P9.1: the chapter's and the document's examples.
func TestExamples(t *testing.T) {
	leads(t, parsed(t, "mov r1 r0\njump 2\nret r1\n"), 0, 2, 2, changed(map[int]env.Source{1: was(0)}))
	leads(t, parsed(t, "jump 0\n"), 0, -1, 0, first())
	leads(t, parsed(t, "mov s0 r1\nconst r1 5\nswap s0 r2\nret r1\n"), 0, 3, 3, changed(map[int]env.Source{8: was(2), 1: is(5), 2: was(1)}))
}

// P9.1: from an instruction that does more, of each Op, wherever it stands and whatever stands about it.
func TestDoesMore(t *testing.T) {
	for _, x := range oneOfEach() {
		for _, n := range []int{2, 3, 50, 199, 200} {
			for _, at := range []int{0, min(1, n-2), n/2 - 1, n - 2} {
				f := long(n)
				f[at] = x
				leads(t, f, at, at, 0, first())
				f[n-1] = api.Ins{Op: api.Jump, To: at}
				leads(t, f, at, at, 0, first())
				leads(t, f, n-1, at, 1, first())
			}
		}
	}
	for _, n := range []int{1, 2, 200} {
		leads(t, long(n), n-1, n-1, 0, first())
	}
}

// P9.1: an instruction that only moves, alone ahead of each that does more.
func TestOneMove(t *testing.T) {
	for _, x := range oneOfEach() {
		ahead := func(m api.Ins) []api.Ins { return []api.Ins{m, x, {Op: api.Ret}} }
		leads(t, ahead(api.Ins{Op: api.Jump, To: 1}), 0, 1, 1, first())
		leads(t, ahead(api.Ins{Op: api.Jump, To: 2}), 0, 2, 1, first())
		for d := range 24 {
			for _, n := range []int64{0, 1, -1, int64(d), math.MinInt64, math.MaxInt64, 1 << 32} {
				leads(t, ahead(api.Ins{Op: api.Const, D: d, N: n}), 0, 1, 1, changed(map[int]env.Source{d: is(n)}))
			}
			for a := range 24 {
				leads(t, ahead(api.Ins{Op: api.Mov, D: d, A: a}), 0, 1, 1, changed(map[int]env.Source{d: was(a)}))
				leads(t, ahead(api.Ins{Op: api.Swap, D: d, A: a}), 0, 1, 1, changed(map[int]env.Source{d: was(a), a: was(d)}))
			}
		}
	}
}

// P9.1: several behind one another: what was overwritten, swapped, copied on, and what was left alone.
func TestSeveralMoves(t *testing.T) {
	// r0 r1 r2 r3 are 0 to 3; s0 s1 s2 are 8 to 10.
	for _, x := range []struct {
		text      string
		at        int
		to, steps int
		sources   map[int]env.Source
	}{
		{"const r0 1\nconst r0 2\nret r0\n", 0, 2, 2, map[int]env.Source{0: is(2)}},
		{"const r0 1\nconst r0 2\nret r0\n", 1, 2, 1, map[int]env.Source{0: is(2)}},
		{"const r0 1\nconst s0 1\nret r0\n", 0, 2, 2, map[int]env.Source{0: is(1), 8: is(1)}},
		{"const r0 1\nmov r0 r1\nret r0\n", 0, 2, 2, map[int]env.Source{0: was(1)}},
		{"mov r0 r1\nconst r0 1\nret r0\n", 0, 2, 2, map[int]env.Source{0: is(1)}},
		{"mov r0 r1\nconst r1 1\nret r0\n", 0, 2, 2, map[int]env.Source{0: was(1), 1: is(1)}},
		{"const r1 1\nmov r0 r1\nret r0\n", 0, 2, 2, map[int]env.Source{0: is(1), 1: is(1)}},
		{"mov r0 r1\nmov r1 r0\nret r0\n", 0, 2, 2, map[int]env.Source{0: was(1)}},
		{"mov r0 r1\nmov r1 r2\nmov r2 r3\nret r0\n", 0, 3, 3, map[int]env.Source{0: was(1), 1: was(2), 2: was(3)}},
		{"mov r2 r3\nmov r1 r2\nmov r0 r1\nret r0\n", 0, 3, 3, map[int]env.Source{0: was(3), 1: was(3), 2: was(3)}},
		{"mov s0 r0\nmov r0 r1\nmov r1 s0\nret r0\n", 0, 3, 3, map[int]env.Source{8: was(0), 0: was(1), 1: was(0)}},
		{"mov s0 r0\nmov r0 r1\nmov r1 s0\nret r0\n", 1, 3, 2, map[int]env.Source{0: was(1), 1: was(8)}},
		{"mov s0 r0\nmov r0 r1\nmov r1 s0\nret r0\n", 2, 3, 1, map[int]env.Source{1: was(8)}},
		{"swap r0 r1\nswap r0 r1\nret r0\n", 0, 2, 2, nil},
		{"swap r0 r1\nswap r1 r0\nret r0\n", 0, 2, 2, nil},
		{"swap r0 r1\nswap r1 r2\nret r0\n", 0, 2, 2, map[int]env.Source{0: was(1), 1: was(2), 2: was(0)}},
		{"swap r1 r2\nswap r0 r1\nret r0\n", 0, 2, 2, map[int]env.Source{0: was(2), 1: was(0), 2: was(1)}},
		{"const r0 7\nswap r0 s1\nret r0\n", 0, 2, 2, map[int]env.Source{0: was(9), 9: is(7)}},
		{"swap r0 s1\nconst r0 7\nret r0\n", 0, 2, 2, map[int]env.Source{0: is(7), 9: was(0)}},
		{"mov r0 r0\nswap s1 s1\nret r0\n", 0, 2, 2, nil},
		{"mov r0 r1\nmov r0 r0\nswap r0 r0\nret r0\n", 0, 3, 3, map[int]env.Source{0: was(1)}},
		{"jump 1\njump 2\njump 3\nret r0\n", 0, 3, 3, nil},
		{"jump 3\nret r0\njump 1\njump 2\n", 0, 1, 3, nil},
		{"jump 3\nret r0\njump 1\njump 2\n", 3, 1, 2, nil},
		{"jump 4\nconst r0 1\njump 6\nret r0\nmov r0 r1\njump 1\nswap r0 r2\njump 3\n", 0, 3, 7, map[int]env.Source{0: was(2), 2: is(1)}},
		{"jump 4\nconst r0 1\njump 6\nret r0\nmov r0 r1\njump 1\nswap r0 r2\njump 3\n", 4, 3, 6, map[int]env.Source{0: was(2), 2: is(1)}},
		{"jump 4\nconst r0 1\njump 6\nret r0\nmov r0 r1\njump 1\nswap r0 r2\njump 3\n", 1, 3, 4, map[int]env.Source{0: was(2), 2: is(1)}},
		{"jump 4\nconst r0 1\njump 6\nret r0\nmov r0 r1\njump 1\nswap r0 r2\njump 3\n", 6, 3, 2, map[int]env.Source{0: was(2), 2: was(0)}},
		{"jump 4\nconst r0 1\njump 6\nret r0\nmov r0 r1\njump 1\nswap r0 r2\njump 3\n", 7, 3, 1, nil},
		{"jump 4\nconst r0 1\njump 6\nret r0\nmov r0 r1\njump 1\nswap r0 r2\njump 3\n", 3, 3, 0, nil},
		{"mov r0 r1\nadd r0 r0 r0\nmov r2 r0\nret r2\n", 0, 1, 1, map[int]env.Source{0: was(1)}},
		{"mov r0 r1\nadd r0 r0 r0\nmov r2 r0\nret r2\n", 2, 3, 1, map[int]env.Source{2: was(0)}},
		{"mov r0 r1\nzero r0 0\njump 0\n", 2, 1, 2, map[int]env.Source{0: was(1)}},
	} {
		leads(t, parsed(t, x.text), x.at, x.to, x.steps, changed(x.sources))
	}
}

// P9.1: a Jump to itself, circles of several, and ways into them, from each place.
func TestCircles(t *testing.T) {
	for _, text := range []string{
		"jump 0\n",
		"jump 1\njump 0\n",
		"jump 1\njump 1\n",
		"mov r1 r2\njump 0\n",
		"mov r1 r2\njump 1\n",
		"const r1 2\njump 0\n",
		"swap r1 r2\njump 0\n",
		"swap r1 s2\nconst r1 2\nmov s3 r1\njump 0\n",
		"swap r1 s2\nconst r1 2\nmov s3 r1\njump 1\n",
		"swap r1 s2\nconst r1 2\nmov s3 r1\njump 2\n",
		"swap r1 s2\nconst r1 2\nmov s3 r1\njump 3\n",
		"jump 2\njump 0\njump 1\n",
		"jump 3\njump 0\njump 1\njump 2\n",
		"mov r1 r2\njump 4\nconst r1 5\njump 0\nswap r1 r3\njump 2\n",
	} {
		f := parsed(t, text)
		for at := range f {
			leads(t, f, at, -1, 0, first())
		}
	}
	for n := 1; n <= 200; n++ {
		for _, to := range []int{0, 1, n / 2, n - 1} {
			f := append(long(n)[:n-1], api.Ins{Op: api.Jump, To: min(to, n-1)})
			for at := range f {
				if g := from(f, at); g != nowhere() {
					t.Fatalf("%d, back to %d, from %d: %+v", n, to, at, g)
				}
			}
		}
	}
}

// P9.1: beside a circle other places of the function lead somewhere.
func TestBesideCircles(t *testing.T) {
	f := parsed(t, "zero r0 3\nconst r1 2\njump 1\nmov r2 r1\njump 0\n")
	leads(t, f, 0, 0, 0, first())
	leads(t, f, 1, -1, 0, first())
	leads(t, f, 2, -1, 0, first())
	leads(t, f, 3, 0, 2, changed(map[int]env.Source{2: was(1)}))
	leads(t, f, 4, 0, 1, first())
	f = parsed(t, "const r3 1\njump 4\nret r0\nconst r3 2\nmov r4 r3\njump 3\nmov r5 s5\njump 2\n")
	for _, at := range []int{0, 1, 3, 4, 5} {
		leads(t, f, at, -1, 0, first())
	}
	leads(t, f, 2, 2, 0, first())
	leads(t, f, 6, 2, 2, changed(map[int]env.Source{5: was(13)}))
	leads(t, f, 7, 2, 1, first())
}

// P9.1: a circle in which one instruction does more: from each place it leads to that one.
func TestCirclesThatAreLeft(t *testing.T) {
	for _, x := range oneOfEach() {
		for n := 2; n <= 12; n++ {
			for more := range n - 1 {
				f := append(long(n)[:n-1], api.Ins{Op: api.Jump, To: 0})
				f[more] = x
				for at := range f {
					steps, table := (more-at+n)%n, first()
					// A mov is on the way, unless it begins where it leads, or only the Jump is between.
					if at < more || at > more && (at < n-1 || more > 0) {
						table[3] = was(4)
					}
					leads(t, f, at, more, steps, table)
				}
			}
		}
	}
	f := parsed(t, "mov r1 r0\nzero r1 0\nret r1\n")
	leads(t, f, 0, 1, 1, changed(map[int]env.Source{1: was(0)}))
	leads(t, f, 1, 1, 0, first())
	leads(t, f, 2, 2, 0, first())
}

// longest are functions of so many instructions with a path through all of them: straight on, by jumps from behind, by jumps to and fro.
func longest(n int) (f [3][]api.Ins, begin [3]int) {
	f[0] = long(n)
	for at := range n - 1 {
		f[0][at] = api.Ins{Op: api.Const, D: at % 24, N: int64(at)}
	}
	// Place 0 does more; each other one jumps to the one ahead of it.
	f[1] = []api.Ins{{Op: api.Store, A: 1, B: 2}}
	for at := 1; at < n; at++ {
		f[1] = append(f[1], api.Ins{Op: api.Jump, To: at - 1})
	}
	begin[1] = n - 1
	// From 0 to the last, to 1, to the last but one, and so on, up to the middle.
	f[2] = make([]api.Ins, n)
	for at := range n / 2 {
		f[2][at] = api.Ins{Op: api.Jump, To: n - 1 - at}
		f[2][n-1-at] = api.Ins{Op: api.Jump, To: at + 1}
	}
	f[2][n/2] = api.Ins{Op: api.Add}
	return f, begin
}

// P9.1, P9.4: the longest paths, of MaxIns instructions and of fewer, from their beginnings and from their middles.
func TestLongest(t *testing.T) {
	for _, n := range []int{3, 9, 25, 199, 200} {
		f, begin := longest(n)
		for at := range n {
			table := first()
			for k := at; k < n-1; k++ {
				table[k%24] = is(int64(k))
			}
			leads(t, f[0], at, n-1, n-1-at, table)
			leads(t, f[1], at, 0, at, first())
		}
		for i := range f {
			if g := from(f[i], begin[i]); g.e != api.OK || g.p.Steps != n-1 || onlyMoves(f[i][g.p.To]) {
				t.Errorf("%d, %d: to %d by %d steps, %d", n, i, g.p.To, g.p.Steps, g.e)
			}
			for at := range f[i] {
				if g := from(f[i], at); g != worked(f[i], at) {
					t.Errorf("%d, %d, from %d: %+v", n, i, at, g)
				}
			}
		}
	}
	f, _ := longest(200)
	leads(t, f[2], 0, 100, 199, first())
	leads(t, f[2], 50, 100, 99, first())
}

// P9.1: where the last instruction leads back, however far, there is a circle.
func TestLongestCircle(t *testing.T) {
	for _, n := range []int{1, 2, 100, 199, 200} {
		for to := range n {
			f := append(long(n)[:n-1], api.Ins{Op: api.Jump, To: to})
			for _, at := range []int{0, n / 2, n - 1} {
				if g := from(f, at); g != nowhere() {
					t.Fatalf("%d, to %d, from %d: %+v", n, to, at, g)
				}
			}
		}
	}
}

// small are instructions of which functions are made: some of each kind, with few places, so that they meet.
func small(n int) []api.Ins {
	l := []api.Ins{{Op: api.Const, D: 1, N: 5}, {Op: api.Mov, D: 0, A: 1}, {Op: api.Mov, D: 8, A: 0}, {Op: api.Swap, D: 1, A: 8}, {Op: api.Add, D: 0, A: 1, B: 0}, {Op: api.Ret, A: 0}}
	for to := range n {
		l = append(l, api.Ins{Op: api.Jump, To: to}, api.Ins{Op: api.Zero, A: 0, To: to})
	}
	return l
}

// eachSmall hands over all functions of so many instructions that are made of the small ones.
func eachSmall(n int, hand func(f []api.Ins)) {
	l := small(n)
	f := make([]api.Ins, n)
	var lay func(at int)
	lay = func(at int) {
		if at == n {
			if asm.Right(f) {
				hand(f)
			}
			return
		}
		for _, x := range l {
			f[at] = x
			lay(at + 1)
		}
	}
	lay(0)
}

// made answers a function of so many instructions, a number's: most of them only move.
func made(n int, seed uint64) []api.Ins {
	draw := func(below int) int {
		seed = seed*6364136223846793005 + 1442695040888963407
		return int(seed>>33) % below
	}
	var f []api.Ins
	for at := range n {
		x := api.Ins{Op: []int{api.Const, api.Mov, api.Mov, api.Swap, api.Swap, api.Jump, api.Jump, api.Add, api.Zero, api.Call, api.Load, api.Store, api.Ret}[draw(7+draw(7))]}
		if at == n-1 {
			x.Op = []int{api.Jump, api.Ret}[draw(2)]
		}
		switch x.Op {
		case api.Const:
			x.D, x.N = draw(24), int64(draw(9)-4)
		case api.Mov, api.Swap:
			x.D, x.A = draw(24), draw(24)
		case api.Add:
			x.D, x.A, x.B = draw(8), draw(8), draw(8)
		case api.Load, api.Call:
			x.D, x.A = draw(8), draw(8)
		case api.Store:
			x.A, x.B = draw(8), draw(8)
		case api.Jump:
			x.To = draw(n)
		case api.Zero:
			x.A, x.To = draw(8), draw(n)
		case api.Ret:
			x.A = draw(8)
		}
		f = append(f, x)
	}
	return f
}

// each hands over functions of all kinds, with each of their places.
func each(t *testing.T, hand func(f []api.Ins, at int)) {
	t.Helper()
	var fs [][]api.Ins
	for _, text := range rightTexts() {
		fs = append(fs, parsed(t, text))
	}
	for seed := range uint64(400) {
		fs = append(fs, made(1+int(seed)%30, seed))
	}
	for _, n := range []int{9, 40, 200} {
		l, _ := longest(n)
		fs = append(fs, l[0], l[1], l[2], made(n, uint64(n)))
	}
	for _, f := range fs {
		if !asm.Right(f) {
			t.Fatalf("%v isn't right", f)
		}
		for at := range f {
			hand(f, at)
		}
	}
}

// P9.1: all functions of few instructions, and many of more, against what the Words say; all kinds of paths are among them.
func TestAgainstWords(t *testing.T) {
	var round, none, some int
	ask := func(f []api.Ins, at int) {
		g, w := from(f, at), worked(f, at)
		if g != w {
			t.Fatalf("%v, from %d: %+v; it ought to be %+v", f, at, g, w)
		}
		switch {
		case w.p.To == -1:
			round++
		case w.p.Steps == 0:
			none++
		default:
			some++
		}
	}
	for n := 1; n <= 4; n++ {
		eachSmall(n, func(f []api.Ins) {
			for at := range f {
				ask(f, at)
			}
		})
	}
	each(t, ask)
	if round < 1000 || none < 1000 || some < 1000 {
		t.Errorf("%d lead nowhere, %d by no step, %d by some", round, none, some)
	}
}

// number answers the word that is a number.
func number(v int64) api.Word { return api.Word{Is: true, V: v} }

// states are machines of all kinds that stand at a place: all places with numbers, the registers alone, none, some; heaps of no word, of some and of MaxHeap; with calls answered and without.
func states(at int) []api.State {
	l := []api.State{{At: at}, {At: at, Asked: 3, Heap: []int64{5, 6}}, {At: at, Asked: math.MaxInt, Heap: make([]int64, 16)}, {At: at, Asked: 1, Heap: []int64{-7, 0, 1 << 40}}}
	for p := range 24 {
		l[1].L[p] = number(int64(1000 + p))
		if p < 8 {
			l[2].L[p] = number(math.MinInt64 + int64(p))
		}
		if p%3 != 1 {
			l[3].L[p] = number(int64(-p))
		}
	}
	return l
}

// sameState: R3, a heap of no words may be nil or empty.
func sameState(a, b api.State) bool {
	return a.L == b.L && slices.Equal(a.Heap, b.Heap) && a.At == b.At && a.Asked == b.Asked
}

// P9.2: from any state there, as many steps as the path has lead to where it leads, with what its table fills; no event, the heap and Asked as they were, all that is done only moves, and what is come to does more.
func TestSteps(t *testing.T) {
	each(t, func(f []api.Ins, at int) {
		p, e := path.From(f, at)
		if e != api.OK {
			t.Fatalf("%v, from %d: %d", f, at, e)
		}
		if p.To == -1 {
			return
		}
		for _, begin := range states(at) {
			s := begin
			for range p.Steps {
				if !onlyMoves(f[s.At]) {
					t.Fatalf("%v, from %d: at %d it does more", f, at, s.At)
				}
				next, events, out, e := step.Do(f, s, []int64{1, 2, 3, 4})
				if e != api.OK || len(events) > 0 || out.How != api.Runs {
					t.Fatalf("%v, from %d: at %d %v, %+v, %d", f, at, s.At, events, out, e)
				}
				s = next
			}
			if !sameState(s, api.State{L: env.Fill(p.T, begin.L), Heap: begin.Heap, At: p.To, Asked: begin.Asked}) {
				t.Fatalf("%v, from %d by %+v: %+v of %+v", f, at, p, s, begin)
			}
			if onlyMoves(f[s.At]) {
				t.Fatalf("%v, from %d: it leads to %d, which only moves", f, at, s.At)
			}
		}
	})
}

// P9.3: where it leads nowhere, every step only moves: longer than there are instructions is for ever.
func TestForEver(t *testing.T) {
	asked := 0
	each(t, func(f []api.Ins, at int) {
		p, e := path.From(f, at)
		if e != api.OK || p.To != -1 {
			return
		}
		asked++
		for _, s := range states(at)[:2] {
			heap, answered := s.Heap, s.Asked
			for range 2*len(f) + 3 {
				if !onlyMoves(f[s.At]) {
					t.Fatalf("%v, from %d: at %d it does more", f, at, s.At)
				}
				next, events, out, e := step.Do(f, s, []int64{1, 2, 3, 4})
				if e != api.OK || len(events) > 0 || out.How != api.Runs || next.Asked != answered || !slices.Equal(next.Heap, heap) {
					t.Fatalf("%v, from %d: at %d %+v, %v, %+v, %d", f, at, s.At, next, events, out, e)
				}
				s = next
			}
		}
	})
	if asked < 100 {
		t.Errorf("only %d lead nowhere", asked)
	}
}

// P9.3: a place of which every step only moves leads nowhere; one that comes to something else does not.
func TestNowhereOnlyWhereForEver(t *testing.T) {
	each(t, func(f []api.Ins, at int) {
		s := api.State{At: at}
		for range f {
			if onlyMoves(f[s.At]) {
				s, _, _, _ = step.Do(f, s, nil)
			}
		}
		if p, _ := path.From(f, at); onlyMoves(f[s.At]) != (p.To == -1) || p.To != -1 && p.To != s.At {
			t.Fatalf("%v, from %d: %+v; steps lead to %d", f, at, p, s.At)
		}
	})
}

// P9.4: fewer steps than the function has instructions; none, where it leads nowhere; and that bound is met.
func TestFewerSteps(t *testing.T) {
	each(t, func(f []api.Ins, at int) {
		p, _ := path.From(f, at)
		if p.Steps < 0 || p.Steps >= len(f) || p.To == -1 && p.Steps != 0 || p.To < -1 || p.To >= len(f) {
			t.Fatalf("%v, from %d: %+v", f, at, p)
		}
	})
	for n := 1; n <= 200; n++ {
		if p, _ := path.From(long(n), 0); p.Steps != n-1 {
			t.Errorf("%d: %d steps", n, p.Steps)
		}
	}
}

// P9.1: a path goes on as the path behind its first step does, with that step's table ahead of it.
func TestOneStepLess(t *testing.T) {
	each(t, func(f []api.Ins, at int) {
		x := f[at]
		if !onlyMoves(x) {
			return
		}
		next := at + 1
		if x.Op == api.Jump {
			next = x.To
		}
		p, _ := path.From(f, at)
		q, _ := path.From(f, next)
		if q.To == -1 {
			if p != q {
				t.Fatalf("%v, from %d: %+v, and behind a step %+v", f, at, p, q)
			}
			return
		}
		if p.To != q.To || p.Steps != q.Steps+1 || p.T != env.Then(env.After(env.New(), x), q.T) {
			t.Fatalf("%v, from %d: %+v, and behind a step %+v", f, at, p, q)
		}
	})
}

// P9.1: tables are good where there is no error, and the first one where no step is done.
func TestTablesAreGood(t *testing.T) {
	each(t, func(f []api.Ins, at int) {
		p, _ := path.From(f, at)
		if !env.Good(p.T) || p.Steps == 0 && p.T != env.New() {
			t.Fatalf("%v, from %d: %+v", f, at, p)
		}
	})
}

// R3: no argument is changed, nor what stands behind its end.
func TestArgumentsStay(t *testing.T) {
	stay := func(f []api.Ins, at int) {
		t.Helper()
		room := slices.Concat(f, slices.Repeat([]api.Ins{{Op: 77, D: 1, A: 2, B: 3, N: 4, To: 5}}, 6))
		was := slices.Clone(room)
		path.From(room[:len(f)], at)
		if !slices.Equal(room, was) {
			t.Fatalf("%v, from %d: changed", f, at)
		}
	}
	each(t, stay)
	for _, f := range wrongFunctions() {
		for _, at := range []int{-1, 0, 1, len(f) - 1, len(f)} {
			stay(f, at)
		}
	}
}

// R3: what is answered is neither kept by the program nor the caller's list: either may be changed, and the other stays.
func TestAnswersAreNew(t *testing.T) {
	each(t, func(f []api.Ins, at int) {
		list := slices.Clone(f)
		g := from(list, at)
		was := g
		for i := range list {
			list[i] = api.Ins{Op: api.Const, D: 5, N: 99}
		}
		if g != was {
			t.Fatalf("%v, from %d: changed with the list", f, at)
		}
		for l := range g.p.T {
			g.p.T[l] = nil
		}
		g.p.To, g.p.Steps = 1000, 1000
		if again := from(f, at); again != was {
			t.Fatalf("%v, from %d: %+v, and then %+v", f, at, was, again)
		}
		if env.New() != first() {
			t.Fatal("the first table is another one")
		}
	})
}

// R3, R4: what was handed in is not kept: another function in the same memory is another one; and an answer hangs on nothing ahead of it.
func TestArgumentsAreNotKept(t *testing.T) {
	list := make([]api.Ins, api.MaxIns)
	for seed := range uint64(200) {
		f := made(1+int(seed)%60, seed+1000)
		n := copy(list, f)
		for at := range f {
			if g := from(list[:n], at); g != worked(f, at) {
				t.Fatalf("%v, from %d: %+v", f, at, g)
			}
			path.From(nil, at)
			path.From(list, -1)
		}
	}
}

// R4: the same again, each time.
func TestSameAnswerAgain(t *testing.T) {
	each(t, func(f []api.Ins, at int) {
		g := from(f, at)
		for range 3 {
			if again := from(slices.Clone(f), at); again != g {
				t.Fatalf("%v, from %d: %+v, and then %+v", f, at, g, again)
			}
		}
	})
}

// R1: no call panics, and each ends, whatever it is given.
func TestNoPanic(t *testing.T) {
	numbers := append(far(), 0, 1, 7, 8, 23, 24)
	for _, op := range append(numbers, 2, 3, 4, 12, 13, 14, 15, 16, 17, 18, 19) {
		for i, v := range numbers {
			for _, x := range []api.Ins{
				{Op: op, D: v}, {Op: op, A: v}, {Op: op, B: v}, {Op: op, N: int64(v)}, {Op: op, To: v}, {Op: op, D: v, A: v, B: v, N: int64(v), To: v},
				{Op: op, D: v, A: numbers[len(numbers)-1-i]},
			} {
				for _, f := range [][]api.Ins{{x}, {x, {Op: api.Ret}}, {x, {Op: api.Jump}}, {{Op: api.Jump, To: 1}, x, {Op: api.Ret}}} {
					for _, at := range []int{-1, 0, 1, 2, 3, math.MinInt, math.MaxInt} {
						g := from(f, at)
						if !asm.Right(f) || at < 0 || at >= len(f) {
							if g != (told{e: api.ErrArg}) {
								t.Fatalf("%v, from %d: %+v", f, at, g)
							}
						} else if g != worked(f, at) {
							t.Fatalf("%v, from %d: %+v", f, at, g)
						}
					}
				}
			}
		}
	}
}
