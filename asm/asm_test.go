package asm_test

import (
	"math"
	"slices"
	"strings"
	"testing"

	"joinery/api"
	"joinery/asm"
	"joinery/ins"
)

// mov and ret are right wherever they stand.
var (
	mov = api.Ins{Op: api.Mov, D: 1}
	ret = api.Ins{Op: api.Ret, A: 1}
)

func jump(to int) api.Ins { return api.Ins{Op: api.Jump, To: to} }

func zero(to int) api.Ins { return api.Ins{Op: api.Zero, A: 1, To: to} }

// long answers a right function of n instructions: n-1 of mov, and ret.
func long(n int) []api.Ins {
	return append(slices.Repeat([]api.Ins{mov}, n-1), ret)
}

// with answers a list with another instruction at one place.
func with(f []api.Ins, at int, x api.Ins) []api.Ins {
	f = slices.Clone(f)
	f[at] = x
	return f
}

// wrong is an instruction that isn't right in a function of n, and its error.
type wrong struct {
	x    api.Ins
	want api.Errno
}

func wrongs(n int) []wrong {
	return []wrong{
		{api.Ins{}, api.ErrArg},
		{api.Ins{Op: 19}, api.ErrArg},
		{api.Ins{Op: -1}, api.ErrArg},
		{api.Ins{Op: api.Ret, A: 1, B: 1}, api.ErrArg},
		{api.Ins{Op: api.Jump, D: 1}, api.ErrArg},
		{api.Ins{Op: api.Call, N: api.MaxCall + 1}, api.ErrArg},
		{api.Ins{Op: api.Call, N: -1}, api.ErrArg},
		{api.Ins{Op: math.MaxInt, D: math.MinInt, A: math.MaxInt, B: math.MinInt, N: math.MinInt64, To: math.MaxInt}, api.ErrArg},
		{api.Ins{Op: api.Ret, A: api.Regs}, api.ErrUse},
		{api.Ins{Op: api.Ret, A: -1}, api.ErrUse},
		{api.Ins{Op: api.Mov, A: api.Locs}, api.ErrUse},
		{api.Ins{Op: api.Const, D: math.MaxInt}, api.ErrUse},
		{api.Ins{Op: api.Zero, A: api.Regs, To: n}, api.ErrUse},
		{jump(n), api.ErrTo},
		{zero(n), api.ErrTo},
		{jump(n + 1), api.ErrTo},
		{jump(api.MaxIns), api.ErrTo},
		{jump(-1), api.ErrTo},
		{zero(math.MinInt), api.ErrTo},
	}
}

// tell answers Check's answers, and holds those of Right and Print against them: P4.1, and R2, beside the error there is no text.
func tell(t *testing.T, f []api.Ins) (int, api.Errno) {
	t.Helper()
	at, e := asm.Check(f)
	if asm.Right(f) != (e == api.OK) {
		t.Errorf("Right(%.3v): %t, but Check tells %d", f, asm.Right(f), e)
	}
	if s, pe := asm.Print(f); e != api.OK && (s != "" || pe != api.ErrArg) || e == api.OK && (s != textOf(f) || pe != api.OK) {
		t.Errorf("Print(%.3v): %.40q, %d; but Check tells %d", f, s, pe, e)
	}
	return at, e
}

// textOf answers the texts of instructions, each ended by a line feed.
func textOf(f []api.Ins) string {
	text := ""
	for _, x := range f {
		s, _ := ins.Print(x)
		text += s + "\x0a"
	}
	return text
}

// P4.1: of more than MaxIns, of none, and of all numbers between.
func TestCheckOfLengths(t *testing.T) {
	for _, f := range [][]api.Ins{nil, {}, make([]api.Ins, 0, 5), long(3)[:0]} {
		if at, e := tell(t, f); at != 0 || e != api.ErrEnd {
			t.Errorf("Check(%v): %d, %d", f, at, e)
		}
	}
	for n := 1; n <= 200; n++ {
		if at, e := tell(t, long(n)); at != 0 || e != api.OK {
			t.Errorf("Check of %d: %d, %d", n, at, e)
		}
	}
	for _, n := range []int{201, 202, 256, 257, 400, 1000, 65537} {
		if at, e := tell(t, long(n)); at != 0 || e != api.ErrFull {
			t.Errorf("Check of %d: %d, %d", n, at, e)
		}
	}
}

// P4.1: an instruction that isn't right, at the beginning, in the middle and at the end, of functions of several lengths.
func TestCheckOfOneWrong(t *testing.T) {
	for _, n := range []int{1, 2, 3, 9, 199, 200} {
		for _, at := range []int{0, n / 2, n - 1} {
			for _, w := range wrongs(n) {
				if got, e := tell(t, with(long(n), at, w.x)); got != at || e != w.want {
					t.Errorf("Check of %d, at %d %+v: %d, %d; not %d", n, at, w.x, got, e, w.want)
				}
			}
		}
	}
}

// P4.1: To is held against the function's own number: one below it is right.
func TestCheckOfTo(t *testing.T) {
	for _, n := range []int{1, 2, 3, 9, 199, 200} {
		for _, at := range []int{0, n / 2, n - 1} {
			for _, to := range []int{0, n / 2, n - 1} {
				if got, e := tell(t, with(long(n), at, jump(to))); got != 0 || e != api.OK {
					t.Errorf("Check of %d, at %d a jump to %d: %d, %d", n, at, to, got, e)
				}
				if at == n-1 {
					continue
				}
				if got, e := tell(t, with(long(n), at, zero(to))); got != 0 || e != api.OK {
					t.Errorf("Check of %d, at %d a zero to %d: %d, %d", n, at, to, got, e)
				}
			}
		}
	}
}

// P4.1: the last one is a Jump or a Ret, and no other.
func TestCheckOfTheLast(t *testing.T) {
	lasts := []api.Ins{{Op: api.Const, D: 9, N: 7}, {Op: api.Mov, D: 9, A: 10}, {Op: api.Swap, D: 11, A: 3}}
	for op := api.Add; op <= api.Same; op++ {
		lasts = append(lasts, api.Ins{Op: op, D: 1, A: 2, B: 3})
	}
	lasts = append(lasts, api.Ins{Op: api.Load, D: 4, A: 5}, api.Ins{Op: api.Store, A: 6, B: 7}, api.Ins{Op: api.Call, D: 1, A: 2, N: 50}, zero(0))
	for _, n := range []int{1, 2, 9, 199, 200} {
		for _, x := range lasts {
			if at, e := tell(t, with(long(n), n-1, x)); at != n-1 || e != api.ErrEnd {
				t.Errorf("Check of %d that end with %+v: %d, %d", n, x, at, e)
			}
		}
		for _, x := range []api.Ins{jump(0), jump(n - 1), ret, {Op: api.Ret}, {Op: api.Ret, A: 7}} {
			if at, e := tell(t, with(long(n), n-1, x)); at != 0 || e != api.OK {
				t.Errorf("Check of %d that end with %+v: %d, %d", n, x, at, e)
			}
		}
	}
}

// P4.1, and R2: where a function has several errors.
func TestCheckOfSeveral(t *testing.T) {
	arg, use := api.Ins{}, api.Ins{Op: api.Ret, A: api.Regs}
	for _, c := range []struct {
		name string
		f    []api.Ins
		at   int
		want api.Errno
	}{
		{"too many, the first wrong", with(long(201), 0, arg), 0, api.ErrFull},
		{"too many, one wrong", with(long(201), 7, use), 0, api.ErrFull},
		{"too many, the last wrong", with(long(201), 200, jump(201)), 0, api.ErrFull},
		{"too many, all wrong", make([]api.Ins, 201), 0, api.ErrFull},
		{"too many, and no end", with(long(201), 200, mov), 0, api.ErrFull},
		{"two wrong, ErrTo first", []api.Ins{mov, jump(4), arg, ret}, 1, api.ErrTo},
		{"two wrong, ErrUse first", []api.Ins{use, arg, jump(4), ret}, 0, api.ErrUse},
		{"two wrong, ErrArg first", []api.Ins{mov, mov, arg, use}, 2, api.ErrArg},
		{"three wrong, ErrTo first", []api.Ins{zero(9), use, arg, mov}, 0, api.ErrTo},
		{"one wrong, and no end", []api.Ins{mov, use, mov}, 1, api.ErrUse},
		{"the last wrong, which is no end", []api.Ins{mov, mov, zero(3)}, 2, api.ErrTo},
		{"the last wrong, which is an end", []api.Ins{mov, mov, jump(3)}, 2, api.ErrTo},
		{"an end in the middle alone", []api.Ins{mov, ret, mov}, 2, api.ErrEnd},
		{"an end at the beginning alone", []api.Ins{jump(2), mov, mov}, 2, api.ErrEnd},
		{"all wrong, of 200", make([]api.Ins, 200), 0, api.ErrArg},
	} {
		if at, e := tell(t, c.f); at != c.at || e != c.want {
			t.Errorf("%s: Check: %d, %d; not %d, %d", c.name, at, e, c.at, c.want)
		}
	}
}

// wantCheck is P4.1.
func wantCheck(f []api.Ins) (int, api.Errno) {
	switch {
	case len(f) > 200:
		return 0, api.ErrFull
	case len(f) == 0:
		return 0, api.ErrEnd
	}
	bad := slices.IndexFunc(f, func(x api.Ins) bool { return ins.Check(x, len(f)) != api.OK })
	last := len(f) - 1
	switch {
	case bad >= 0:
		return bad, ins.Check(f[bad], len(f))
	case f[last].Op != 16 && f[last].Op != 18:
		return last, api.ErrEnd
	}
	return 0, api.OK
}

// rowsOf answers all rows of at most n items, those of the fewest first.
func rowsOf[T any](items []T, n int) [][]T {
	l := [][]T{nil}
	from := 0
	for range n {
		to := len(l)
		for _, row := range l[from:to] {
			for _, x := range items {
				l = append(l, append(slices.Clone(row), x))
			}
		}
		from = to
	}
	return l
}

// P4.1, of all functions of at most five of some instructions.
func TestCheckOfAllRows(t *testing.T) {
	for _, f := range rowsOf([]api.Ins{mov, ret, {}, {Op: api.Ret, A: 8}, jump(0), jump(2), zero(3), jump(4)}, 5) {
		at, e := asm.Check(f)
		if want, we := wantCheck(f); at != want || e != we || asm.Right(f) != (we == api.OK) {
			t.Errorf("Check(%v): %d, %d; not %d, %d", f, at, e, want, we)
		}
	}
}

// known is a function with its text, written out.
type known struct {
	f []api.Ins
	s string
}

func written() []known {
	return []known{
		{[]api.Ins{{Op: api.Mov, D: 1, A: 0}, {Op: api.Ret, A: 1}}, "mov r1 r0\nret r1\n"},
		{[]api.Ins{{Op: api.Ret}}, "ret r0\n"},
		{[]api.Ins{{Op: api.Jump}}, "jump 0\n"},
		{[]api.Ins{{Op: api.Jump, To: 1}, {Op: api.Jump}}, "jump 1\njump 0\n"},
		{[]api.Ins{{Op: api.Ret, A: 7}, {Op: api.Ret}, {Op: api.Ret, A: 7}}, "ret r7\nret r0\nret r7\n"},
		{[]api.Ins{
			{Op: api.Const, D: 23, N: math.MinInt64},
			{Op: api.Mov, D: 8, A: 7},
			{Op: api.Swap, D: 9, A: 23},
			{Op: api.Add, D: 1, A: 2, B: 3},
			{Op: api.Sub, D: 3, A: 1, B: 2},
			{Op: api.Mul, D: 4, A: 5, B: 6},
			{Op: api.Div, D: 7, A: 0, B: 1},
			{Op: api.And, D: 0, A: 7, B: 1},
			{Op: api.Or, D: 0, A: 1, B: 7},
			{Op: api.Xor, D: 5, A: 3, B: 4},
			{Op: api.Less, D: 2, A: 0, B: 1},
			{Op: api.Same, D: 6, A: 2, B: 4},
			{Op: api.Load, D: 1, A: 2},
			{Op: api.Store, A: 5, B: 6},
			{Op: api.Call, D: 1, A: 2, N: 99},
			{Op: api.Zero, A: 7, To: 17},
			{Op: api.Ret, A: 7},
			{Op: api.Jump, To: 3},
		}, "const s15 -9223372036854775808\nmov s0 r7\nswap s1 s15\nadd r1 r2 r3\nsub r3 r1 r2\nmul r4 r5 r6\ndiv r7 r0 r1\nand r0 r7 r1\nor r0 r1 r7\nxor r5 r3 r4\nless r2 r0 r1\nsame r6 r2 r4\nload r1 r2\nstore r5 r6\ncall r1 r2 99\nzero r7 17\nret r7\njump 3\n"},
	}
}

// P4.1 to P4.3
func TestWritten(t *testing.T) {
	for _, k := range written() {
		if at, e := tell(t, k.f); at != 0 || e != api.OK {
			t.Errorf("Check(%v): %d, %d", k.f, at, e)
		}
		if s, e := asm.Print(k.f); s != k.s || e != api.OK {
			t.Errorf("Print(%v): %q, %d", k.f, s, e)
		}
		if f, at, e := asm.Parse(k.s); !slices.Equal(f, k.f) || at != 0 || e != api.OK {
			t.Errorf("Parse(%q): %v, %d, %d", k.s, f, at, e)
		}
	}
	if s := written()[0].s; strings.Index(s, "ret") != 10 || len(s) != 17 {
		t.Errorf("the text's lines have other lengths than the chapter's: %q", s)
	}
}

// longest answers a function of n instructions whose text is the longest of all.
func longest(n int) []api.Ins {
	return append(slices.Repeat([]api.Ins{{Op: api.Const, D: 23, N: math.MinInt64}}, n-1), jump(n-1))
}

// P4.3
func TestParseOfPrint(t *testing.T) {
	for n := 1; n <= 200; n++ {
		for _, f := range [][]api.Ins{long(n), longest(n), with(long(n), 0, jump(n-1))} {
			s, e := asm.Print(f)
			if s != textOf(f) || e != api.OK {
				t.Errorf("Print of %d: %q, %d", n, s, e)
			}
			if back, at, e := asm.Parse(s); !slices.Equal(back, f) || at != 0 || e != api.OK {
				t.Errorf("Parse of Print of %d: %v, %d, %d", n, back, at, e)
			}
		}
	}
}

// asks holds Parse's error and place against those wanted; R2: beside them there is no function.
func asks(t *testing.T, name, s string, at int, want api.Errno) {
	t.Helper()
	if f, got, e := asm.Parse(s); len(f) != 0 || got != at || e != want {
		t.Errorf("%s: Parse(%.40q): %.3v, %d, %d; not %d, %d", name, s, f, got, e, at, want)
	}
}

// P4.2: MaxText is of bytes, and is asked ahead of all else.
func TestParseOfLongTexts(t *testing.T) {
	rets := strings.Repeat("ret r1\n", 2856) // 19992 bytes
	for _, c := range []struct {
		name, s string
		at      int
		want    api.Errno
	}{
		{"20000 bytes of too many instructions", rets + "jump 10\n", 0, api.ErrFull},
		{"19999 bytes of too many instructions", rets + "ret r1\n", 0, api.ErrFull},
		{"20000 bytes, the last line not ended", rets + "ret r1\nr", 19999, api.ErrForm},
		{"20000 bytes, the last line none", rets + "jump 1x\n", 19992, api.ErrForm},
		{"20001 bytes, the last line none", rets + "jump 10x\n", 0, api.ErrFull},
		{"20001 bytes, the last line not ended", rets + "ret r1\nre", 0, api.ErrFull},
		{"20001 bytes, the first line none", "x" + rets + "ret r1\n\n", 0, api.ErrFull},
		{"20000 line feeds", strings.Repeat("\n", 20000), 0, api.ErrForm},
		{"20001 line feeds", strings.Repeat("\n", 20001), 0, api.ErrFull},
		{"20000 bytes of one line", "ret r1\n" + strings.Repeat(" ", 19993), 7, api.ErrForm},
		{"20001 bytes of one line", "ret r1\n" + strings.Repeat(" ", 19994), 0, api.ErrFull},
		{"20000 bytes, runes of two", "ret r1\n" + strings.Repeat("\u00e9", 9996) + "\n", 7, api.ErrForm},
		{"20001 bytes, runes of two", "ret r1\n" + strings.Repeat("\u00e9", 9997), 0, api.ErrFull},
		{"20001 bytes, runes of three", strings.Repeat("\u20ac", 6667), 0, api.ErrFull},
		{"20000 bytes that are no runes", "ret r1\n" + strings.Repeat("\xff", 19993), 7, api.ErrForm},
		{"20001 bytes that are no runes", "ret r1\n" + strings.Repeat("\xff", 19994), 0, api.ErrFull},
		{"a function, and bytes up to 20000", "ret r1\n" + strings.Repeat("\n", 19993), 7, api.ErrForm},
		{"a million bytes", strings.Repeat("ret r1\nx", 125000), 0, api.ErrFull},
	} {
		asks(t, c.name, c.s, c.at, c.want)
	}
}

// P4.2: Check's errors, with the place of the byte where the line begins.
func TestParseOfFunctionsThatAreNotRight(t *testing.T) {
	for _, c := range []struct {
		name, s string
		at      int
		want    api.Errno
	}{
		{"an empty text", "", 0, api.ErrEnd},
		{"no end, of one", "mov r1 r0\n", 0, api.ErrEnd},
		{"no end, of two", "ret r1\nmov r1 r0\n", 7, api.ErrEnd},
		{"no end, of three", "jump 0\nconst s15 -100\nzero r1 0\n", 22, api.ErrEnd},
		{"To at the number, of one", "jump 1\n", 0, api.ErrTo},
		{"To at the number, at the beginning", "jump 3\nmov r1 r0\nret r1\n", 0, api.ErrTo},
		{"To at the number, in the middle", "mov r1 r0\nzero r1 3\nret r1\n", 10, api.ErrTo},
		{"To at the number, at the end", "mov r1 r0\nzero r1 2\njump 3\n", 20, api.ErrTo},
		{"To beyond the number", "mov r1 r0\nzero r1 199\nret r1\n", 10, api.ErrTo},
		{"the first of two", "ret r1\njump 4\njump 5\nret r1\n", 7, api.ErrTo},
		{"To ahead of no end", "ret r1\njump 4\nmov r1 r0\n", 7, api.ErrTo},
		{"To at the last, which is no end", "ret r1\nzero r0 2\n", 7, api.ErrTo},
		{"201 instructions", strings.Repeat("ret r1\n", 201), 0, api.ErrFull},
		{"201 instructions, one to 199", strings.Repeat("ret r1\n", 200) + "jump 199\n", 0, api.ErrFull},
		{"201 instructions, no end", strings.Repeat("ret r1\n", 200) + "mov r1 r0\n", 0, api.ErrFull},
		{"199 instructions, the last to 199", strings.Repeat("ret r1\n", 198) + "jump 199\n", 1386, api.ErrTo},
		{"200 instructions, no end", strings.Repeat("ret r1\n", 199) + "mov r1 r0\n", 1393, api.ErrEnd},
	} {
		asks(t, c.name, c.s, c.at, c.want)
	}
	for _, s := range []string{"mov r1 r0\nzero r1 2\nret r1\n", "jump 2\nmov r1 r0\nret r1\n", "mov r1 r0\nmov r1 r0\njump 2\n", strings.Repeat("ret r1\n", 199) + "jump 199\n"} {
		if f, at, e := asm.Parse(s); textOf(f) != s || at != 0 || e != api.OK {
			t.Errorf("Parse(%.40q): %.3v, %d, %d", s, f, at, e)
		}
	}
}

// noLines are texts without line feeds that are no instruction's.
func noLines() []string {
	return []string{
		"", " ", "x", "ret", "ret r8", "ret s0", "jump 200", "jump -1", "call r1 r2 100", "add s1 r2 r3", "ret r1 ", " ret r1", "ret  r1", "ret r1;", "# ret r1", "RET r1", "mov r1 r0 ret r1",
		"\r", "ret r1\r", "\rret r1", "ret\rr1", "ret r1\rret r1", "ret r1\r\r",
		"\t", "ret\tr1", "ret r1\t", "ret r1\x00", "\x00", "ret r1\v", "ret r1\f", "\x0b", "\x0c", "\x1e",
		"\u00e9", "r\u00e9t r1", "ret\u00a0r1", "ret r\u0661", "jump \uff11", "\ufeffret r1", "ret r1\u200b", "\U0001f600", "ret r1\U0001f600", "\ufffd", "ret r1\ufffd",
		"ret r1\u2028", "ret r1\u2028ret r1", "ret r1\u2029ret r1", "ret r1\u0085", "\u0085", "ret r1\u240a", "ret r1\u010aret r1", "\u010a", "ret r1\u0a0aret r1", "\U0001000a",
		"\xff", "ret r1\xff", "\xffret r1", "ret\xffr1", "ret r1\xc2", "ret r1\xe2\x80", "ret r1\xf0\x9f\x98", "ret r1\x80", "\xc0\x8a", "ret r1\xc0\x8aret r1", "ret r1\x8aret r1", "ret r1\xed\xa0\x80", "\xed\xb0\x8a", "\xf4\x90\x80\x8a", "\xfe\xff",
		strings.Repeat("\u20ac", 300), strings.Repeat("\xf0", 300), strings.Repeat("ret r1 ", 300), strings.Repeat("9", 3000),
	}
}

// P4.2: a line that is no instruction's, at the beginning, in the middle and at the end; those behind it are none's either way.
func TestParseOfALineThatIsNone(t *testing.T) {
	for _, line := range noLines() {
		for _, c := range []struct {
			ahead, behind string
		}{
			{"", ""},
			{"", "ret r1\n"},
			{"", "ret r1\nret r1\n"},
			{"mov r1 r0\n", "ret r1\n"},
			{"mov r1 r0\nconst s15 -100\n", "jump 0\nret r1\n"},
			{"ret r1\n", ""},
			{"mov r1 r0\nret r1\n", ""},
			{"mov r1 r0\nret r1\n", "ret r1"},
			{"mov r1 r0\nret r1\n", "\n"},
			{"mov r1 r0\n", "x\nret r8\n"},
			{strings.Repeat("ret r1\n", 198), "ret r1\n"},
			{strings.Repeat("ret r1\n", 199), ""},
			{strings.Repeat("ret r1\n", 200), ""},
			{strings.Repeat("ret r1\n", 2000), ""},
		} {
			asks(t, "a line", c.ahead+line+"\n"+c.behind, len(c.ahead), api.ErrForm)
			if line != "" && c.behind == "" {
				asks(t, "a line that isn't ended", c.ahead+line, len(c.ahead), api.ErrForm)
			}
		}
	}
}

// P4.2: the last line isn't ended, whether or not it is an instruction's.
func TestParseWithoutTheLastLineFeed(t *testing.T) {
	for _, c := range []struct {
		s  string
		at int
	}{
		{"ret r1", 0},
		{"mov r1 r0\nret r1", 10},
		{"mov r1 r0\nret r1\nret r1", 17},
		{"ret r1\njump 9", 7},
		{"ret r1\nx", 7},
		{"ret r1\n ", 7},
		{"ret r1\n\r", 7},
		{"ret r1\n\xff", 7},
		{"ret r1\n\u00e9", 7},
		{"ret r1\r", 0},
		{"mov r1 r0\rret r1\r", 0},
		{strings.Repeat("ret r1\n", 200) + "ret r1", 1400},
		{strings.Repeat("ret r1\n", 201) + "ret r1", 1407},
	} {
		asks(t, "not ended", c.s, c.at, api.ErrForm)
	}
}

// P4.2, and R2: where a text has several errors.
func TestParseOfSeveral(t *testing.T) {
	for _, c := range []struct {
		name, s string
		at      int
		want    api.Errno
	}{
		{"two lines that are none", "ret r1\nx\nyy\nret r1\n", 7, api.ErrForm},
		{"a line that is none, ahead of one that isn't ended", "ret r1\nx\nret r1", 7, api.ErrForm},
		{"a line that is none, behind a jump to nowhere", "jump 9\nret r1\nx\n", 14, api.ErrForm},
		{"one that isn't ended, behind a jump to nowhere", "jump 9\nret r1", 7, api.ErrForm},
		{"a line that is none, and no end", "x\nmov r1 r0\n", 0, api.ErrForm},
		{"an empty line, and no end", "mov r1 r0\n\n", 10, api.ErrForm},
		{"a line that is none, of 201", strings.Repeat("ret r1\n", 200) + "x\n", 1400, api.ErrForm},
		{"a line that is none, behind 201", strings.Repeat("ret r1\n", 201) + "\n", 1407, api.ErrForm},
		{"a line that is none, ahead of 201", "\n" + strings.Repeat("ret r1\n", 201), 0, api.ErrForm},
		{"a line that is none, in more than MaxText bytes", "x\n" + strings.Repeat("ret r1\n", 2857), 0, api.ErrFull},
		{"a line feed alone", "\n", 0, api.ErrForm},
		{"two line feeds", "\n\n", 0, api.ErrForm},
		{"201, with a jump to nowhere and no end", "jump 199\n" + strings.Repeat("mov r1 r0\n", 200), 0, api.ErrFull},
	} {
		asks(t, c.name, c.s, c.at, c.want)
	}
}

// wantParse is P4.2.
func wantParse(s string) ([]api.Ins, int, api.Errno) {
	if len(s) > 20000 {
		return nil, 0, api.ErrFull
	}
	var f []api.Ins
	var begins []int
	for begin := 0; begin < len(s); {
		size := strings.IndexByte(s[begin:], 10)
		if size < 0 {
			return nil, begin, api.ErrForm
		}
		x, e := ins.Parse(s[begin : begin+size])
		if e != api.OK {
			return nil, begin, api.ErrForm
		}
		f, begins = append(f, x), append(begins, begin)
		begin += size + 1
	}
	at, e := wantCheck(f)
	if e == api.OK {
		return f, 0, api.OK
	}
	return nil, append(begins, 0)[at], e
}

// held holds Parse against P4.2, and Print of what it answers against P4.3.
func held(t *testing.T, s string) api.Errno {
	t.Helper()
	f, at, e := asm.Parse(s)
	want, wantAt, wantE := wantParse(s)
	if !slices.Equal(f, want) || at != wantAt || e != wantE {
		t.Errorf("Parse(%.60q): %.3v, %d, %d; not %.3v, %d, %d", s, f, at, e, want, wantAt, wantE)
	}
	if e != api.OK {
		return e
	}
	if back, e := asm.Print(f); back != s || e != api.OK {
		t.Errorf("Print of Parse(%.60q): %.60q, %d", s, back, e)
	}
	return api.OK
}

// P4.2, P4.3: of all rows of at most five of some pieces.
func TestParseOfAllRows(t *testing.T) {
	met := map[api.Errno]int{}
	for _, row := range rowsOf([]string{"ret r1\n", "mov r1 r0\n", "jump 2\n", "zero r1 0\n", "\n", "ret r1", "\r\n", "\xff", "\u00e9\n"}, 5) {
		met[held(t, strings.Join(row, ""))]++
	}
	for _, e := range []api.Errno{api.OK, api.ErrForm, api.ErrTo, api.ErrEnd} {
		if met[e] == 0 {
			t.Errorf("the error %d was never met", e)
		}
	}
}

// P4.2, P4.3: whatever is changed in a text.
func TestParseOfChangedTexts(t *testing.T) {
	texts := []string{"jump 1\nmov r1 r0\nret r1\n", "zero r0 2\njump 2\nret r7\n"}
	for _, k := range written() {
		texts = append(texts, k.s)
	}
	for _, s := range texts {
		for i := range len(s) + 1 {
			held(t, s[:i])
			held(t, s[i:])
			held(t, s[i:]+s[:i])
			for c := range 256 {
				b := string([]byte{byte(c)})
				held(t, s[:i]+b+s[i:])
				if i < len(s) {
					held(t, s[:i]+b+s[i+1:])
				}
			}
			if i < len(s) {
				held(t, s[:i]+s[i+1:])
			}
		}
	}
}

// manyFunctions answers functions of all sorts.
func manyFunctions() [][]api.Ins {
	l := [][]api.Ins{nil, {}, {ret}, {mov}, {{}}, {jump(1)}, {mov, ret, mov}, long(200), long(201), with(long(200), 100, api.Ins{}), longest(200)}
	for _, k := range written() {
		l = append(l, k.f)
	}
	return l
}

// P0 (R3): what is handed in is not changed, its spare room neither, and what stands in its spare room doesn't matter.
func TestFunctionsAreNotChanged(t *testing.T) {
	for _, f := range manyFunctions() {
		for _, spare := range [][]api.Ins{{}, {ret, ret}, {{}, {Op: 19}}, make([]api.Ins, 300)} {
			room := append(slices.Clone(f), spare...)
			before := slices.Clone(room)
			at, e := tell(t, room[:len(f)])
			if want, we := wantCheck(f); at != want || e != we {
				t.Errorf("Check(%.3v) with spare room: %d, %d; not %d, %d", f, at, e, want, we)
			}
			if !slices.Equal(room, before) {
				t.Errorf("%.3v was changed to %.3v", before, room)
			}
		}
	}
}

// P0 (R3): what Print answered stays when the function is changed.
func TestPrintKeepsNothing(t *testing.T) {
	f := long(3)
	s, _ := asm.Print(f)
	f[0] = api.Ins{Op: api.Swap, D: 2, A: 3}
	if again, e := asm.Print(f); s != "mov r1 r0\nmov r1 r0\nret r1\n" || again != "swap r2 r3\nmov r1 r0\nret r1\n" || e != api.OK {
		t.Errorf("Print: %q, then %q, %d", s, again, e)
	}
	f[0] = api.Ins{}
	if at, e := asm.Check(f); at != 0 || e != api.ErrArg {
		t.Errorf("Check: %d, %d", at, e)
	}
}

// P0 (R3): what Parse answers is new memory, spare room too.
func TestParseIsNew(t *testing.T) {
	for n := 1; n <= 200; n++ {
		f := long(n)
		s := textOf(f)
		first, _, _ := asm.Parse(s)
		second, _, _ := asm.Parse(s)
		for _, l := range [][]api.Ins{second, second[:cap(second)]} {
			for i := range l {
				l[i] = api.Ins{Op: -99}
			}
		}
		third, at, e := asm.Parse(s)
		if !slices.Equal(first, f) || !slices.Equal(third, f) || at != 0 || e != api.OK {
			t.Errorf("Parse of %d: %.3v, then %.3v, %d, %d", n, first, third, at, e)
		}
		more := append(first, api.Ins{Op: -98})
		_ = append(third, api.Ins{Op: -97})
		if more[n].Op != -98 {
			t.Errorf("Parse of %d: two lists have one spare room", n)
		}
	}
}

// P0 (R1, R4): no call panics, whatever it is given, and the same arguments have the same answer.
func TestSameAnswerAgain(t *testing.T) {
	for _, f := range manyFunctions() {
		at, e := asm.Check(f)
		if again, now := asm.Check(f); again != at || now != e {
			t.Errorf("Check(%.3v): first %d, %d, then %d, %d", f, at, e, again, now)
		}
		s, e := asm.Print(f)
		if again, now := asm.Print(f); again != s || now != e {
			t.Errorf("Print(%.3v): first %.40q, %d, then %.40q, %d", f, s, e, again, now)
		}
	}
	for _, s := range append(noLines(), "ret r1\n", "", "jump 1\n", textOf(long(200)), textOf(long(201))) {
		f, at, e := asm.Parse(s)
		if again, there, now := asm.Parse(s); !slices.Equal(again, f) || there != at || now != e {
			t.Errorf("Parse(%.40q): first %.3v, %d, %d, then %.3v, %d, %d", s, f, at, e, again, there, now)
		}
	}
}
