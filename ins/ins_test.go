package ins_test

import (
	"math"
	"slices"
	"strconv"
	"strings"
	"testing"

	"joinery/api"
	"joinery/ins"
)

// row is one of the chapter's table: what may stand in each field ("": it must be 0).
type row struct {
	op            int
	word          string
	d, a, b, n, t string
}

func rows() []row {
	return []row{
		{op: 1, word: "const", d: "place", n: "any"},
		{op: 2, word: "mov", d: "place", a: "place"},
		{op: 3, word: "swap", d: "place", a: "place"},
		{op: 4, word: "add", d: "register", a: "register", b: "register"},
		{op: 5, word: "sub", d: "register", a: "register", b: "register"},
		{op: 6, word: "mul", d: "register", a: "register", b: "register"},
		{op: 7, word: "div", d: "register", a: "register", b: "register"},
		{op: 8, word: "and", d: "register", a: "register", b: "register"},
		{op: 9, word: "or", d: "register", a: "register", b: "register"},
		{op: 10, word: "xor", d: "register", a: "register", b: "register"},
		{op: 11, word: "less", d: "register", a: "register", b: "register"},
		{op: 12, word: "same", d: "register", a: "register", b: "register"},
		{op: 13, word: "load", d: "register", a: "register"},
		{op: 14, word: "store", a: "register", b: "register"},
		{op: 15, word: "call", d: "register", a: "register", n: "call"},
		{op: 16, word: "jump", t: "to"},
		{op: 17, word: "zero", a: "register", t: "to"},
		{op: 18, word: "ret", a: "register"},
	}
}

// noOps are numbers that are no Op, on either side and far off, where a narrower number would be one.
func noOps() []int {
	return []int{0, -1, -2, -18, 19, 20, 255, 256, 257, 1<<16 + 2, 1<<32 + 3, -1<<32 + 4, math.MinInt, math.MinInt + 1, math.MaxInt}
}

// may: may a number stand there, in a function of n?
func may(what string, v int64, n int) bool {
	switch what {
	case "place":
		return v >= 0 && v <= 23
	case "register":
		return v >= 0 && v <= 7
	case "any":
		return true
	case "call":
		return v >= 0 && v <= 99
	case "to":
		return v >= 0 && v < int64(n)
	}
	return v == 0
}

// wantCheck is P3.1, by the chapter's table.
func wantCheck(x api.Ins, n int) api.Errno {
	for _, r := range rows() {
		if r.op != x.Op {
			continue
		}
		d, a, b := may(r.d, int64(x.D), n), may(r.a, int64(x.A), n), may(r.b, int64(x.B), n)
		to := may(r.t, int64(x.To), n)
		switch {
		case r.d == "" && !d, r.a == "" && !a, r.b == "" && !b, r.t == "" && !to, !may(r.n, x.N, n):
			return api.ErrArg
		case !d, !a, !b:
			return api.ErrUse
		case !to:
			return api.ErrTo
		}
		return api.OK
	}
	return api.ErrArg
}

func placeText(l int) string {
	if l < 8 {
		return "r" + strconv.Itoa(l)
	}
	return "s" + strconv.Itoa(l-8)
}

// wantText is the text of a right instruction, by the chapter's table.
func wantText(x api.Ins) string {
	r := rows()[x.Op-1]
	l := []string{r.word}
	if r.d != "" {
		l = append(l, placeText(x.D))
	}
	if r.a != "" {
		l = append(l, placeText(x.A))
	}
	if r.b != "" {
		l = append(l, placeText(x.B))
	}
	if r.n != "" {
		l = append(l, strconv.FormatInt(x.N, 10))
	}
	if r.t != "" {
		l = append(l, strconv.Itoa(x.To))
	}
	return strings.Join(l, " ")
}

// known is an instruction with its text.
type known struct {
	x api.Ins
	s string
}

// written are right instructions of all operations, at their edges, with their texts written out.
func written() []known {
	return []known{
		{api.Ins{Op: api.Const}, "const r0 0"},
		{api.Ins{Op: api.Const, D: 12, N: -7}, "const s4 -7"},
		{api.Ins{Op: api.Const, D: 7, N: math.MinInt64}, "const r7 -9223372036854775808"},
		{api.Ins{Op: api.Const, D: 8, N: math.MaxInt64}, "const s0 9223372036854775807"},
		{api.Ins{Op: api.Const, D: 23, N: 100}, "const s15 100"},
		{api.Ins{Op: api.Mov}, "mov r0 r0"},
		{api.Ins{Op: api.Mov, D: 9, A: 2}, "mov s1 r2"},
		{api.Ins{Op: api.Mov, D: 2, A: 23}, "mov r2 s15"},
		{api.Ins{Op: api.Swap, D: 9, A: 23}, "swap s1 s15"},
		{api.Ins{Op: api.Swap, D: 23, A: 7}, "swap s15 r7"},
		{api.Ins{Op: api.Add, D: 1, A: 2, B: 3}, "add r1 r2 r3"},
		{api.Ins{Op: api.Add}, "add r0 r0 r0"},
		{api.Ins{Op: api.Add, D: 7, A: 7, B: 7}, "add r7 r7 r7"},
		{api.Ins{Op: api.Sub, D: 3, A: 1, B: 2}, "sub r3 r1 r2"},
		{api.Ins{Op: api.Mul, D: 4, A: 5, B: 6}, "mul r4 r5 r6"},
		{api.Ins{Op: api.Div, D: 7, A: 0, B: 1}, "div r7 r0 r1"},
		{api.Ins{Op: api.And, D: 0, A: 7, B: 1}, "and r0 r7 r1"},
		{api.Ins{Op: api.Or, D: 0, A: 1, B: 7}, "or r0 r1 r7"},
		{api.Ins{Op: api.Xor, D: 5, A: 3, B: 4}, "xor r5 r3 r4"},
		{api.Ins{Op: api.Less, D: 2, A: 0, B: 1}, "less r2 r0 r1"},
		{api.Ins{Op: api.Same, D: 6, A: 2, B: 4}, "same r6 r2 r4"},
		{api.Ins{Op: api.Load, D: 1, A: 2}, "load r1 r2"},
		{api.Ins{Op: api.Load, D: 7, A: 0}, "load r7 r0"},
		{api.Ins{Op: api.Store, A: 5, B: 6}, "store r5 r6"},
		{api.Ins{Op: api.Store, A: 0, B: 7}, "store r0 r7"},
		{api.Ins{Op: api.Call, D: 1, A: 2, N: 99}, "call r1 r2 99"},
		{api.Ins{Op: api.Call, D: 7, A: 0}, "call r7 r0 0"},
		{api.Ins{Op: api.Jump}, "jump 0"},
		{api.Ins{Op: api.Jump, To: 199}, "jump 199"},
		{api.Ins{Op: api.Zero, To: 12}, "zero r0 12"},
		{api.Ins{Op: api.Zero, A: 7, To: 199}, "zero r7 199"},
		{api.Ins{Op: api.Ret, A: 7}, "ret r7"},
		{api.Ins{Op: api.Ret}, "ret r0"},
	}
}

// right answers one right instruction of each operation, none of its fields 0 but those that must be.
func right() []api.Ins {
	l := []api.Ins{{Op: api.Const, D: 9, N: -5}, {Op: api.Mov, D: 9, A: 10}, {Op: api.Swap, D: 11, A: 3}}
	for op := api.Add; op <= api.Same; op++ {
		l = append(l, api.Ins{Op: op, D: 1, A: 2, B: 3})
	}
	return append(l,
		api.Ins{Op: api.Load, D: 4, A: 5},
		api.Ins{Op: api.Store, A: 6, B: 7},
		api.Ins{Op: api.Call, D: 1, A: 2, N: 50},
		api.Ins{Op: api.Jump, To: 5},
		api.Ins{Op: api.Zero, A: 1, To: 6},
		api.Ins{Op: api.Ret, A: 3},
	)
}

// The edges that the chapter names, and numbers far off, where a narrower one would be right.
func placeEdges() []int {
	return []int{0, 7, -1, 8, 23, 24, math.MinInt, math.MaxInt, 1<<32 + 1}
}

func numberEdges() []int64 {
	return []int64{0, -1, 99, 100, math.MinInt64, math.MaxInt64, 1<<32 + 1}
}

func sizeEdges() []int {
	return []int{200, 9, 1, 0, -1, math.MinInt, math.MaxInt}
}

func toEdges(n int) []int {
	return []int{0, -1, n - 1, n, math.MinInt, math.MaxInt, 1 << 32}
}

// P3.1
func TestRightInstructions(t *testing.T) {
	l := right()
	for _, k := range written() {
		l = append(l, k.x)
	}
	for _, x := range l {
		if e := ins.Check(x, api.MaxIns); e != api.OK {
			t.Errorf("Check(%+v, 200): %d", x, e)
		}
	}
	for i, x := range right() {
		if x.Op != i+1 {
			t.Fatalf("no right instruction of %d", i+1)
		}
	}
}

// P3.1
func TestNoOperation(t *testing.T) {
	for _, op := range noOps() {
		for _, x := range append(right(), api.Ins{}, api.Ins{D: 24, To: -1}) {
			x.Op = op
			if e := ins.Check(x, 200); e != api.ErrArg {
				t.Errorf("Check(%+v, 200): %d", x, e)
			}
		}
	}
}

// wrongFields answers an instruction with each of its fields wrong in turn, and the error of each.
func wrongFields(x api.Ins, r row) map[api.Ins]api.Errno {
	l := map[api.Ins]api.Errno{}
	for _, f := range []struct {
		what string
		at   func(x *api.Ins) *int
	}{
		{r.d, func(x *api.Ins) *int { return &x.D }},
		{r.a, func(x *api.Ins) *int { return &x.A }},
		{r.b, func(x *api.Ins) *int { return &x.B }},
		{r.t, func(x *api.Ins) *int { return &x.To }},
	} {
		wrong := map[string][]int{"": {-1, 1, 8, 24, math.MinInt, math.MaxInt, 1 << 32}, "place": {-1, 24, math.MinInt, math.MaxInt, 1 << 32}, "register": {-1, 8, 23, 24, math.MinInt, math.MaxInt, 1 << 32}, "to": {-1, 9, 10, math.MinInt, math.MaxInt, 1 << 32}}
		e := map[string]api.Errno{"": api.ErrArg, "place": api.ErrUse, "register": api.ErrUse, "to": api.ErrTo}[f.what]
		for _, v := range wrong[f.what] {
			y := x
			*f.at(&y) = v
			l[y] = e
		}
	}
	wrong := map[string][]int64{"": {-1, 1, math.MinInt64, math.MaxInt64, 1 << 32}, "call": {-1, 100, math.MinInt64, math.MaxInt64, 1 << 32}}
	for _, v := range wrong[r.n] {
		y := x
		y.N = v
		l[y] = api.ErrArg
	}
	return l
}

// P3.1: each operation, with each of its fields wrong; and P3.2, no such instruction has a text (but a jump to 9, which a longer function may have).
func TestEachFieldWrong(t *testing.T) {
	for i, x := range right() {
		if e := ins.Check(x, 9); e != api.OK {
			t.Errorf("Check(%+v, 9): %d", x, e)
		}
		for y, want := range wrongFields(x, rows()[i]) {
			if e := ins.Check(y, 9); e != want {
				t.Errorf("Check(%+v, 9): %d, not %d", y, e, want)
			}
			if y.To == 9 || y.To == 10 {
				continue
			}
			if s, e := ins.Print(y); s != "" || e != api.ErrArg {
				t.Errorf("Print(%+v): %q, %d", y, s, e)
			}
		}
	}
}

// P3.1, and R2: where several errors apply, ErrArg is told ahead of ErrUse, and that ahead of ErrTo.
func TestOrderOfErrors(t *testing.T) {
	for _, c := range []struct {
		x    api.Ins
		want api.Errno
	}{
		{api.Ins{Op: 0, D: 24, To: 9}, api.ErrArg},
		{api.Ins{Op: 19, A: 8, To: 9}, api.ErrArg},
		{api.Ins{Op: api.Const, D: 24, A: 1}, api.ErrArg},
		{api.Ins{Op: api.Mov, D: -1, A: 24, N: 1}, api.ErrArg},
		{api.Ins{Op: api.Swap, D: 24, A: 24, To: 9}, api.ErrArg},
		{api.Ins{Op: api.Add, D: 8, A: 8, B: 8, N: 1}, api.ErrArg},
		{api.Ins{Op: api.Add, D: 8, To: -1}, api.ErrArg},
		{api.Ins{Op: api.Load, D: 8, A: 8, B: 1}, api.ErrArg},
		{api.Ins{Op: api.Store, D: 1, A: 8}, api.ErrArg},
		{api.Ins{Op: api.Call, D: 8, A: 8, N: 100}, api.ErrArg},
		{api.Ins{Op: api.Call, D: -1, N: -1}, api.ErrArg},
		{api.Ins{Op: api.Call, D: 8, B: 1}, api.ErrArg},
		{api.Ins{Op: api.Call, A: 8, N: 99}, api.ErrUse},
		{api.Ins{Op: api.Jump, A: 1, To: 9}, api.ErrArg},
		{api.Ins{Op: api.Jump, N: 1, To: -1}, api.ErrArg},
		{api.Ins{Op: api.Zero, D: 1, A: 8, To: 9}, api.ErrArg},
		{api.Ins{Op: api.Zero, A: 0, B: 1, To: 9}, api.ErrArg},
		{api.Ins{Op: api.Zero, A: 8, To: 9}, api.ErrUse},
		{api.Ins{Op: api.Zero, A: -1, To: -1}, api.ErrUse},
		{api.Ins{Op: api.Zero, A: 7, To: 9}, api.ErrTo},
		{api.Ins{Op: api.Ret, A: 8, To: 9}, api.ErrArg},
	} {
		if e := ins.Check(c.x, 9); e != c.want {
			t.Errorf("Check(%+v, 9): %d, not %d", c.x, e, c.want)
		}
	}
}

// P3.1
func TestToInTheFunction(t *testing.T) {
	for _, c := range []struct {
		to, n int
		want  api.Errno
	}{
		{0, 1, api.OK}, {0, 200, api.OK}, {8, 9, api.OK}, {199, 200, api.OK}, {200, 201, api.OK}, {math.MaxInt - 1, math.MaxInt, api.OK},
		{1, 1, api.ErrTo}, {9, 9, api.ErrTo}, {10, 9, api.ErrTo}, {200, 200, api.ErrTo}, {-1, 9, api.ErrTo}, {-1, 0, api.ErrTo}, {math.MinInt, 9, api.ErrTo}, {math.MaxInt, math.MaxInt, api.ErrTo},
		{0, 0, api.ErrTo}, {0, -1, api.ErrTo}, {0, math.MinInt, api.ErrTo}, {-2, -1, api.ErrTo}, {math.MinInt, math.MinInt, api.ErrTo}, {math.MaxInt, math.MinInt, api.ErrTo},
	} {
		for _, x := range []api.Ins{{Op: api.Jump, To: c.to}, {Op: api.Zero, A: 7, To: c.to}} {
			if e := ins.Check(x, c.n); e != c.want {
				t.Errorf("Check(%+v, %d): %d, not %d", x, c.n, e, c.want)
			}
		}
	}
}

// P3.1: what goes nowhere is right in a function of any length.
func TestNoToInAnyFunction(t *testing.T) {
	for _, x := range right() {
		for _, n := range sizeEdges() {
			if x.Op == api.Jump || x.Op == api.Zero {
				continue
			}
			if e := ins.Check(x, n); e != api.OK {
				t.Errorf("Check(%+v, %d): %d", x, n, e)
			}
		}
	}
}

// allEdges hands over instructions with every field at each of its edges.
func allEdges(n int, each func(x api.Ins)) {
	ops := noOps()
	for op := api.Const; op <= api.Ret; op++ {
		ops = append(ops, op)
	}
	for _, op := range ops {
		for _, d := range placeEdges() {
			for _, a := range placeEdges() {
				for _, b := range placeEdges() {
					for _, number := range numberEdges() {
						for _, to := range toEdges(n) {
							each(api.Ins{Op: op, D: d, A: a, B: b, N: number, To: to})
						}
					}
				}
			}
		}
	}
}

// P3.1
func TestCheckAtAllEdges(t *testing.T) {
	for _, n := range []int{9, 0} {
		allEdges(n, func(x api.Ins) {
			if e, want := ins.Check(x, n), wantCheck(x, n); e != want {
				t.Fatalf("Check(%+v, %d): %d, not %d", x, n, e, want)
			}
		})
	}
}

// P3.2, P3.4, and R2: beside the error there is nothing.
func TestPrintAtAllEdges(t *testing.T) {
	allEdges(api.MaxIns, func(x api.Ins) {
		s, e := ins.Print(x)
		if wantCheck(x, api.MaxIns) != api.OK {
			if s != "" || e != api.ErrArg {
				t.Fatalf("Print(%+v): %q, %d", x, s, e)
			}
			return
		}
		if s != wantText(x) || e != api.OK {
			t.Fatalf("Print(%+v): %q, %d", x, s, e)
		}
		if back, e := ins.Parse(s); back != x || e != api.OK {
			t.Fatalf("Parse(%s): %+v, %d", s, back, e)
		}
	})
}

// P3.2, P3.4
func TestWritten(t *testing.T) {
	for _, k := range written() {
		if s, e := ins.Print(k.x); s != k.s || e != api.OK {
			t.Errorf("Print(%+v): %q, %d; not %s", k.x, s, e, k.s)
		}
		if x, e := ins.Parse(k.s); x != k.x || e != api.OK {
			t.Errorf("Parse(%s): %+v, %d; not %+v", k.s, x, e, k.x)
		}
	}
}

// P3.2, P3.4: each number that may stand in a field is told and read.
func TestEveryNumberOfAField(t *testing.T) {
	var l []api.Ins
	for i := range 200 {
		for _, x := range right() {
			r := rows()[x.Op-1]
			if may(r.d, int64(i), 200) && r.d != "" {
				l = append(l, api.Ins{Op: x.Op, D: i, A: x.A, B: x.B, N: x.N, To: x.To})
			}
			if may(r.a, int64(i), 200) && r.a != "" {
				l = append(l, api.Ins{Op: x.Op, D: x.D, A: i, B: x.B, N: x.N, To: x.To})
			}
			if may(r.b, int64(i), 200) && r.b != "" {
				l = append(l, api.Ins{Op: x.Op, D: x.D, A: x.A, B: i, N: x.N, To: x.To})
			}
			if may(r.n, int64(i), 200) && r.n != "" {
				l = append(l, api.Ins{Op: x.Op, D: x.D, A: x.A, B: x.B, N: int64(i), To: x.To})
			}
			if r.t != "" {
				l = append(l, api.Ins{Op: x.Op, D: x.D, A: x.A, B: x.B, N: x.N, To: i})
			}
		}
	}
	for _, x := range l {
		s, e := ins.Print(x)
		if s != wantText(x) || e != api.OK {
			t.Errorf("Print(%+v): %q, %d", x, s, e)
		}
		if back, e := ins.Parse(s); back != x || e != api.OK {
			t.Errorf("Parse(%s): %+v, %d", s, back, e)
		}
	}
}

// P3.2, and R2: beside the error there is nothing.
func TestParseOfNoInstruction(t *testing.T) {
	for name, l := range map[string][]string{
		"nothing":                         {"", " ", "  ", "   ", "\n", "\t", "\x00"},
		"a word alone":                    {"const", "mov", "swap", "add", "sub", "mul", "div", "and", "or", "xor", "less", "same", "load", "store", "call", "jump", "zero", "ret"},
		"a word and a space":              {"const ", "mov ", "add ", "call ", "jump ", "zero ", "ret ", "ret  "},
		"a word that is none":             {"hay r1", "nop", "move r1 r2", "mo r1 r2", "adds r1 r2 r3", "ad r1 r2 r3", "return r1", "re r1", "div2 r1 r2 r3", "not r1 r2", "jumps 1", "r1", "1", "D A", "D", "T 1", "1 r1 r2", "18 r1"},
		"no word":                         {" r1", " r1 r2", " r1 r2 r3", " 1", " r1 1", "r1 r2 r3"},
		"a piece too few":                 {"const r1", "const 1", "mov r1", "swap s1", "add r1 r2", "sub r1 r2", "mul r1", "div r1 r2", "and r1 r2", "or r1 r2", "xor r1 r2", "less r1 r2", "same r1 r2", "load r1", "store r1", "call r1 r2", "call r1 1", "zero r1", "zero 1"},
		"a piece too many":                {"const r1 1 1", "const r1 r2 1", "mov r1 r2 r3", "swap r1 r2 r3", "add r1 r2 r3 r4", "sub r1 r2 r3 1", "load r1 r2 r3", "load r1 r2 0", "store r1 r2 r3", "call r1 r2 3 4", "call r1 r2 r3 4", "jump 1 2", "jump r1 2", "zero r1 r2 3", "zero r1 2 3", "ret r1 r2", "ret r1 0", "same r1 r2 r3 r4 r5 r6"},
		"two spaces":                      {"mov r1  r2", "mov  r1 r2", "add r1 r2  r3", "add  r1 r2 r3", "const r1  1", "jump  1", "ret  r1", "zero r1  1", "call r1 r2  3"},
		"a space ahead":                   {" mov r1 r2", " ret r1", " jump 1", " const r1 1", "  ret r1"},
		"a space behind":                  {"mov r1 r2 ", "ret r1 ", "jump 1 ", "const r1 1 ", "call r1 r2 3 ", "add r1 r2 r3 ", "zero r1 1 ", "ret r1  "},
		"a slot where a register must be": {"add s1 r2 r3", "add r1 s2 r3", "add r1 r2 s3", "sub s0 r2 r3", "mul r1 s0 r3", "div r1 r2 s0", "and s15 r1 r1", "or r1 s15 r1", "xor r1 r1 s15", "less s1 r1 r1", "same r1 s1 r1", "load s1 r2", "load r1 s2", "store s1 r2", "store r1 s2", "call s1 r2 3", "call r1 s2 3", "zero s0 1", "ret s0", "ret s15"},
		"no place":                        {"mov r8 r1", "mov r1 r8", "mov s16 r1", "mov r1 s16", "swap r1 s99", "const r8 1", "const s16 1", "add r8 r1 r1", "add r1 r8 r1", "add r1 r1 r8", "ret r8", "ret r-1", "load r8 r1", "store r8 r1", "mov r01 r1", "mov r1 r+1", "mov r r", "mov x1 r1", "zero r8 1", "call r1 r8 1"},
		"a number where a place must be":  {"mov 1 r1", "mov r1 1", "const 1 1", "add 1 2 3", "add r1 2 r3", "add r1 r2 3", "ret 1", "zero 1 1", "load 1 2", "store r1 2", "call 1 r1 1", "call r1 1 1"},
		"a place where a number must be":  {"const r1 r2", "jump r1", "zero r1 r2", "call r1 r2 r3", "const s1 s2"},
		"a nought ahead":                  {"const r1 01", "const r1 00", "const r1 -01", "jump 01", "jump 00", "zero r1 01", "call r1 r2 07", "call r1 r2 00"},
		"a plus, or -0":                   {"const r1 +1", "const r1 -0", "const r1 +0", "jump +1", "jump -0", "zero r1 +1", "zero r1 -0", "call r1 r2 +1", "call r1 r2 -0"},
		"another sort of number":          {"const r1 1.0", "const r1 1e1", "const r1 0x1", "const r1 1_0", "const r1 -", "const r1 --1", "const r1 1-", "jump 0x1", "jump 1.", "call r1 r2 1e0"},
		"beyond 64 bits":                  {"const r1 9223372036854775808", "const r1 -9223372036854775809", "const r1 18446744073709551616", "jump 18446744073709551616", "jump 4294967296", "jump 256", "call r1 r2 18446744073709551617", "call r1 r2 4294967297", "call r1 r2 256"},
		"a jump beyond the last":          {"jump 200", "jump 201", "jump -1", "jump 9223372036854775807", "zero r1 200", "zero r1 -1", "zero r1 -9223372036854775808"},
		"a call's number that may not be": {"call r1 r2 100", "call r1 r2 -1", "call r1 r2 199", "call r1 r2 9223372036854775807", "call r1 r2 -9223372036854775808"},
		"a line feed":                     {"ret r1\n", "\nret r1", "mov r1\nr2", "mov\nr1 r2", "add r1 r2 r3\n", "jump 1\n", "const r1 1\n", "jump 1\nret r1", "ret r1\r\n", "ret r1\r"},
		"another space":                   {"mov\tr1 r2", "mov r1\tr2", "ret\u00a0r1", "ret\u2003r1", "ret\u3000r1", "ret r1\t", "jump\v1", "ret \x00r1"},
		"other marks between":             {"mov r1, r2", "mov r1,r2", "add r1;r2;r3", "ret r1;", "ret(r1)", "mov r1=r2", "retr1", "jump1", "constr1 1"},
		"capital letters":                 {"MOV r1 r2", "Mov r1 r2", "mov R1 r2", "mov r1 R2", "ADD r1 r2 r3", "RET r1", "ret R1", "Jump 1", "CONST r1 1", "const S1 1", "retT r1"},
		"other runes":                     {"r\u00e9t r1", "\uff52et r1", "ret r\u0661", "ret \uff521", "jump \u0661", "jump \uff11", "const r1 \u0967", "const r1 \u22121", "ret\u0301 r1", "\ufeffret r1", "ret r1\ufeff", "ret r1\u200b", "jump 1\u0301", "\U0001f600", "\U0001f600 r1", "ret \U0001f600", "\u0172et r1", "m\u03bfv r1 r2"},
		"the rune for no rune":            {"\ufffd", "\ufffd r1", "ret \ufffd", "ret r1\ufffd", "jump \ufffd"},
		"bytes that are no rune":          {"\xff", "\xff r1", "ret\xff r1", "ret \xff", "ret r\xff", "ret r1\xff", "\xffret r1", "jump 1\x80", "jump \xb1", "const r1 \xc2", "mov r1\xc2 r2", "ret\xed\xa0\x80 r1", "re\xf4 r1", "ret\xc2\xa0r1", "ret\xc0\xa0r1", "ret\xa0r1"},
		"a byte of 0":                     {"\x00", "ret\x00r1", "ret r1\x00", "\x00ret r1", "jump 1\x00"},
		"a text that is long":             {strings.Repeat(" ", 300000), strings.Repeat("r", 300000), "ret " + strings.Repeat("r1 ", 100000), "ret r1" + strings.Repeat(" ", 100000), "jump " + strings.Repeat("0", 100000), "jump " + strings.Repeat("1", 100000), "const r1 -" + strings.Repeat("9", 100000), strings.Repeat("mov r1 r2 ", 10000), strings.Repeat("\xff", 100000)},
	} {
		for _, s := range l {
			if x, e := ins.Parse(s); x != (api.Ins{}) || e != api.ErrForm {
				t.Errorf("%s: Parse(%.40q): %+v, %d", name, s, x, e)
			}
		}
	}
}

// P3.2, P3.4: of all rows of pieces those are read that are an instruction's, and no others.
func TestParseOfAllRowsOfPieces(t *testing.T) {
	pieces := []string{"", "r0", "r7", "r8", "s0", "s15", "s16", "0", "-1", "99", "100", "199", "200", "ret"}
	number := map[string]int{"r0": 0, "r7": 7, "s0": 8, "s15": 23, "0": 0, "-1": -1, "99": 99, "100": 100, "199": 199, "200": 200}
	want := map[string]api.Ins{}
	for op := api.Const; op <= api.Ret; op++ {
		for _, d := range number {
			for _, a := range number {
				for _, b := range number {
					for _, x := range []api.Ins{{Op: op, D: d, A: a, B: b}, {Op: op, D: d, A: a, N: int64(b)}, {Op: op, D: d, N: int64(a)}, {Op: op, A: a, To: b}, {Op: op, To: a}} {
						if wantCheck(x, 200) == api.OK {
							want[wantText(x)] = x
						}
					}
				}
			}
		}
	}
	words := []string{"", "nop", "r0", "0"}
	for _, r := range rows() {
		words = append(words, r.word)
	}
	found := 0
	for _, row := range slices.Concat(words, joined(words, pieces, 1), joined(words, pieces, 2), joined(words, pieces, 3), joined(words, pieces, 4)) {
		x, e := ins.Parse(row)
		if y, ok := want[row]; ok {
			found++
			if x != y || e != api.OK {
				t.Errorf("Parse(%q): %+v, %d; not %+v", row, x, e, y)
			}
		} else if x != (api.Ins{}) || e != api.ErrForm {
			t.Errorf("Parse(%q): %+v, %d", row, x, e)
		}
	}
	// 9 operations of 3 registers, of which there are 2 pieces; load, store; call; jump; zero; ret; mov and swap of 4 places; const.
	if want := 9*8 + 4 + 4 + 4*2 + 4 + 2*4 + 2 + 2*16 + 4*6; found != want {
		t.Errorf("%d instructions were met, not %d", found, want)
	}
}

// joined answers all rows of a word and a number of pieces behind it.
func joined(words, pieces []string, many int) []string {
	l := words
	for range many {
		var next []string
		for _, s := range l {
			for _, p := range pieces {
				next = append(next, s+" "+p)
			}
		}
		l = next
	}
	return l
}

// P3.4: whatever is changed in a text, it is no instruction's, or back comes the text.
func TestPrintOfParse(t *testing.T) {
	try := func(s string) {
		x, e := ins.Parse(s)
		if e != api.OK {
			if x != (api.Ins{}) || e != api.ErrForm {
				t.Errorf("Parse(%q): %+v, %d", s, x, e)
			}
			return
		}
		if e := ins.Check(x, 200); e != api.OK {
			t.Errorf("Parse(%q): %+v, which is not right: %d", s, x, e)
		}
		if back, e := ins.Print(x); back != s || e != api.OK {
			t.Errorf("Print(Parse(%q)): %q, %d", s, back, e)
		}
	}
	for _, k := range written() {
		for i := range len(k.s) + 1 {
			try(k.s[:i])
			try(k.s[i:])
			for c := range 256 {
				try(k.s[:i] + string([]byte{byte(c)}) + k.s[i:])
				if i < len(k.s) {
					try(k.s[:i] + string([]byte{byte(c)}) + k.s[i+1:])
				}
			}
			if i < len(k.s) {
				try(k.s[:i] + k.s[i+1:])
			}
		}
	}
}

// odd answers an instruction of an Op whose fields are all unlike, none of them right: what follows hangs on Op alone.
func odd(op int) api.Ins {
	return api.Ins{Op: op, D: -31, A: 1032, B: math.MaxInt, N: -34, To: math.MinInt}
}

// P3.3
func TestMoves(t *testing.T) {
	moves := map[int]bool{1: true, 2: true, 3: true, 16: true}
	for _, x := range allSorts() {
		if ins.Moves(x) != moves[x.Op] {
			t.Errorf("Moves(%+v): %t", x, ins.Moves(x))
		}
	}
}

// P3.3
func TestUses(t *testing.T) {
	for _, x := range allSorts() {
		var want []int
		switch {
		case x.Op >= 4 && x.Op <= 12, x.Op == 14:
			want = []int{x.A, x.B}
		case x.Op == 13, x.Op == 15, x.Op == 17, x.Op == 18:
			want = []int{x.A}
		}
		if l := ins.Uses(x); !slices.Equal(l, want) {
			t.Errorf("Uses(%+v): %v, not %v", x, l, want)
		}
	}
}

// P3.3
func TestUsesTellsAPlaceTwice(t *testing.T) {
	if l := ins.Uses(api.Ins{Op: api.Add, D: 1, A: 4, B: 4}); !slices.Equal(l, []int{4, 4}) {
		t.Errorf("Uses: %v", l)
	}
}

// P3.3
func TestSets(t *testing.T) {
	for _, x := range allSorts() {
		want, is := 0, false
		if x.Op >= 4 && x.Op <= 13 || x.Op == 15 {
			want, is = x.D, true
		}
		if l, ok := ins.Sets(x); l != want || ok != is {
			t.Errorf("Sets(%+v): %d, %t; not %d, %t", x, l, ok, want, is)
		}
	}
}

// allSorts answers instructions of all numbers of Op, right ones and others.
func allSorts() []api.Ins {
	l := append(right(), api.Ins{})
	for op := -3; op < 24; op++ {
		l = append(l, odd(op), api.Ins{Op: op}, api.Ins{Op: op, D: 1, A: 2, B: 3, N: 4, To: 5})
	}
	for _, op := range noOps() {
		l = append(l, odd(op))
	}
	return l
}

// P0 (R3): what Uses answers is new memory, spare room too.
func TestUsesIsNew(t *testing.T) {
	for _, x := range allSorts() {
		first, second := ins.Uses(x), ins.Uses(x)
		want := slices.Clone(first)
		for i := range second {
			second[i] = -99
		}
		_ = append(second, -98, -97)
		if third := ins.Uses(x); !slices.Equal(first, want) || !slices.Equal(third, want) {
			t.Errorf("Uses(%+v): %v, then %v; not %v", x, first, third, want)
		}
		more := append(first, -96)
		_ = append(ins.Uses(x), -95)
		if more[len(first)] != -96 {
			t.Errorf("Uses(%+v): two lists have one spare room", x)
		}
	}
}

// P0 (R1, R4): no call panics, whatever it is given, and the same arguments have the same answer.
func TestSameAnswerAgain(t *testing.T) {
	for _, x := range allSorts() {
		for _, n := range sizeEdges() {
			if first, again := ins.Check(x, n), ins.Check(x, n); first != again {
				t.Errorf("Check(%+v, %d): first %d, then %d", x, n, first, again)
			}
		}
		s, e := ins.Print(x)
		if again, now := ins.Print(x); again != s || now != e {
			t.Errorf("Print(%+v): first %q, %d, then %q, %d", x, s, e, again, now)
		}
		l, ok := ins.Sets(x)
		if again, now := ins.Sets(x); again != l || now != ok {
			t.Errorf("Sets(%+v): first %d, %t, then %d, %t", x, l, ok, again, now)
		}
	}
	for _, s := range []string{"ret r1", "call r1 r2 99", "", "ret", "\xff", "jump 200"} {
		x, e := ins.Parse(s)
		if again, now := ins.Parse(s); again != x || now != e {
			t.Errorf("Parse(%q): first %+v, %d, then %+v, %d", s, x, e, again, now)
		}
	}
}
