package num_test

import (
	"math"
	"math/big"
	"strings"
	"testing"

	"joinery/api"
	"joinery/num"
)

// numbers are ordinary ones and those near the ends, where results wrap round.
func numbers() []int64 {
	l := []int64{math.MinInt64, math.MinInt64 + 1, -1 << 62, -1<<32 - 1, -1 << 32, -1 << 31, math.MaxInt64, math.MaxInt64 - 1, 1 << 62, 1<<32 + 1, 1 << 32, 1<<32 - 1, 1 << 31, 0x5555555555555555, -0x5555555555555556}
	for n := int64(-12); n <= 12; n++ {
		l = append(l, n)
	}
	for n, k := int64(1), 0; k < 40; k++ {
		n = n*6364136223846793005 + 1442695040888963407
		l = append(l, n, n>>(k+8))
	}
	return l
}

// others are operations that aren't arithmetic's, on either side and far off.
func others() []int {
	l := []int{math.MinInt, math.MinInt + api.Add, math.MaxInt, math.MaxInt - 1, -1 << 32, 1 << 32, 1<<32 + api.Add, 1<<8 + api.Add}
	for op := -300; op < api.Add; op++ {
		l = append(l, op)
	}
	for op := api.Same + 1; op < 300; op++ {
		l = append(l, op)
	}
	return l
}

// wrap takes a number of any size modulo 2^64, from -2^63 to 2^63 - 1.
func wrap(x *big.Int) int64 {
	m := new(big.Int).Mod(x, new(big.Int).Lsh(big.NewInt(1), 64))
	return int64(m.Uint64())
}

// bitByBit works a result out of single bits.
func bitByBit(a, b int64, f func(x, y uint64) bool) int64 {
	var out uint64
	for k := range 64 {
		if f(uint64(a)>>k&1, uint64(b)>>k&1) {
			out |= 1 << k
		}
	}
	return int64(out)
}

func oneIf(is bool) int64 {
	if is {
		return 1
	}
	return 0
}

// want answers what the promise asks of an operation of arithmetic, by numbers without an end and by single bits.
func want(op int, a, b int64) (int64, int) {
	x, y := big.NewInt(a), big.NewInt(b)
	switch op {
	case api.Add:
		return wrap(x.Add(x, y)), api.Runs
	case api.Sub:
		return wrap(x.Sub(x, y)), api.Runs
	case api.Mul:
		return wrap(x.Mul(x, y)), api.Runs
	case api.Div:
		if b == 0 {
			return 0, api.ByNil
		}
		return wrap(x.Quo(x, y)), api.Runs
	case api.And:
		return bitByBit(a, b, func(x, y uint64) bool { return x+y == 2 }), api.Runs
	case api.Or:
		return bitByBit(a, b, func(x, y uint64) bool { return x+y > 0 }), api.Runs
	case api.Xor:
		return bitByBit(a, b, func(x, y uint64) bool { return x+y == 1 }), api.Runs
	case api.Less:
		return oneIf(x.Cmp(y) < 0), api.Runs
	}
	return oneIf(x.Cmp(y) == 0), api.Runs
}

// P1.1
func TestHas(t *testing.T) {
	for op := api.Add; op <= api.Same; op++ {
		if !num.Has(op) {
			t.Errorf("Has(%d): false", op)
		}
	}
	for _, op := range others() {
		if num.Has(op) {
			t.Errorf("Has(%d): true", op)
		}
	}
}

// P1.1
func TestDoExamples(t *testing.T) {
	const least, greatest = math.MinInt64, math.MaxInt64
	for _, c := range []struct {
		op         int
		a, b, want int64
		how        int
	}{
		{api.Add, 2, 3, 5, api.Runs},
		{api.Add, greatest, 1, least, api.Runs},
		{api.Add, least, -1, greatest, api.Runs},
		{api.Add, least, least, 0, api.Runs},
		{api.Sub, 3, 5, -2, api.Runs},
		{api.Sub, least, 1, greatest, api.Runs},
		{api.Sub, 0, least, least, api.Runs},
		{api.Mul, -3, 5, -15, api.Runs},
		{api.Mul, greatest, 2, -2, api.Runs},
		{api.Mul, least, -1, least, api.Runs},
		{api.Mul, 1 << 32, 1 << 32, 0, api.Runs},
		{api.Div, 7, 2, 3, api.Runs},
		{api.Div, -7, 2, -3, api.Runs},
		{api.Div, 7, -2, -3, api.Runs},
		{api.Div, -7, -2, 3, api.Runs},
		{api.Div, -1, 2, 0, api.Runs},
		{api.Div, 0, 5, 0, api.Runs},
		{api.Div, least, -1, least, api.Runs},
		{api.Div, least, 1, least, api.Runs},
		{api.Div, greatest, -1, -greatest, api.Runs},
		{api.Div, 1, 0, 0, api.ByNil},
		{api.Div, 0, 0, 0, api.ByNil},
		{api.Div, least, 0, 0, api.ByNil},
		{api.And, 6, 3, 2, api.Runs},
		{api.And, -1, least, least, api.Runs},
		{api.Or, 6, 3, 7, api.Runs},
		{api.Or, least, greatest, -1, api.Runs},
		{api.Xor, 6, 3, 5, api.Runs},
		{api.Xor, -1, least, greatest, api.Runs},
		{api.Less, 2, 3, 1, api.Runs},
		{api.Less, 3, 3, 0, api.Runs},
		{api.Less, 3, 2, 0, api.Runs},
		{api.Less, -1, 0, 1, api.Runs},
		{api.Less, least, greatest, 1, api.Runs},
		{api.Less, greatest, least, 0, api.Runs},
		{api.Same, 3, 3, 1, api.Runs},
		{api.Same, 3, -3, 0, api.Runs},
		{api.Same, least, least, 1, api.Runs},
		{api.Same, least, greatest, 0, api.Runs},
		{api.Same, 0, 1 << 32, 0, api.Runs},
	} {
		if v, how := num.Do(c.op, c.a, c.b); v != c.want || how != c.how {
			t.Errorf("Do(%d, %d, %d): %d, %d", c.op, c.a, c.b, v, how)
		}
	}
}

// P1.1
func TestDoOfAllPairs(t *testing.T) {
	for op := api.Add; op <= api.Same; op++ {
		for _, a := range numbers() {
			for _, b := range numbers() {
				v, how := num.Do(op, a, b)
				if x, y := want(op, a, b); v != x || how != y {
					t.Fatalf("Do(%d, %d, %d): %d, %d; not %d, %d", op, a, b, v, how, x, y)
				}
			}
		}
	}
}

// P1.1
func TestDoOfAnotherOp(t *testing.T) {
	for _, op := range others() {
		for _, c := range [][2]int64{{3, 3}, {1, 0}, {math.MinInt64, -1}} {
			if v, how := num.Do(op, c[0], c[1]); v != 0 || how != api.Undef {
				t.Errorf("Do(%d, %d, %d): %d, %d", op, c[0], c[1], v, how)
			}
		}
	}
}

// P1.2
func TestTextAndParse(t *testing.T) {
	for n, s := range map[int64]string{
		0: "0", 1: "1", -1: "-1", 9: "9", 10: "10", 70: "70", -70: "-70", 100: "100", 1234567890: "1234567890",
		math.MaxInt64: "9223372036854775807", math.MinInt64: "-9223372036854775808", math.MinInt64 + 1: "-9223372036854775807",
	} {
		if x := num.Text(n); x != s {
			t.Errorf("Text(%d): %q", n, x)
		}
		if v, e := num.Parse(s); v != n || e != api.OK {
			t.Errorf("Parse(%q): %d, %d", s, v, e)
		}
	}
}

// P1.2, and R2: beside the error there is nothing.
func TestParseOfNoNumber(t *testing.T) {
	for _, s := range []string{
		"", "-", "+", "--", "--1", "-+1", "+-1", "1-", "1-1",
		"-0", "+0", "00", "01", "-01", "-00", "007", "+1",
		"9223372036854775808", "-9223372036854775809", "9223372036854775810", "18446744073709551615", "18446744073709551616", "18446744073709551617", "-18446744073709551617", "10000000000000000000",
		"a", "1a", "a1", "r1", "0x1", "0b1", "0o7", "1_000", "1,000", "1.0", "1e3", "ff", "Inf", "NaN", "nil",
		" ", " 1", "1 ", "- 1", "1 2", "\t1", "1\t", "1\n", "\n1", "1\r\n", "\u00a01",
		"\u0661", "\uff11", "1\u0660", "\u22121", "\x00", "1\x00", "\xff", "1\xff", "-\xc2",
		strings.Repeat("9", 100000), strings.Repeat("0", 100000), "-" + strings.Repeat("1", 100000), strings.Repeat("0", 50) + "1", strings.Repeat("-", 1000),
	} {
		if v, e := num.Parse(s); v != 0 || e != api.ErrForm {
			t.Errorf("Parse(%.40q): %d, %d", s, v, e)
		}
	}
}

// P1.3: back from a number's text comes the number, and back from a text's number the text.
func TestParseOfText(t *testing.T) {
	for _, n := range numbers() {
		if v, e := num.Parse(num.Text(n)); v != n || e != api.OK {
			t.Errorf("Parse(Text(%d)): %d, %d", n, v, e)
		}
	}
}

// shortTexts answers all texts of at most three of the letters, in which some are numbers' and most are not.
func shortTexts(letters string) []string {
	l := []string{""}
	for from, length := 0, 0; length < 3; length++ {
		to := len(l)
		for _, s := range l[from:to] {
			for _, r := range letters {
				l = append(l, s+string(r))
			}
		}
		from = to
	}
	return l
}

// P1.3
func TestTextOfParse(t *testing.T) {
	right := 0
	for _, s := range append(shortTexts("-+0123456789 a_."), "9223372036854775807", "-9223372036854775808") {
		v, e := num.Parse(s)
		if e != api.OK {
			continue
		}
		right++
		if x := num.Text(v); x != s {
			t.Errorf("Text(Parse(%q)): %q", s, x)
		}
	}
	// 0 to 999, -1 to -99, and the two ends.
	if right != 1000+99+2 {
		t.Errorf("%d texts are numbers'", right)
	}
}

// P1.4
func TestLaws(t *testing.T) {
	do := func(op int, a, b int64) int64 {
		v, how := num.Do(op, a, b)
		if how != api.Runs {
			t.Errorf("Do(%d, %d, %d): %d", op, a, b, how)
		}
		return v
	}
	for _, a := range numbers() {
		for _, b := range numbers() {
			if do(api.Add, a, b) != do(api.Add, b, a) {
				t.Errorf("Add of %d and %d hangs on their order", a, b)
			}
			if do(api.Mul, a, b) != do(api.Mul, b, a) {
				t.Errorf("Mul of %d and %d hangs on their order", a, b)
			}
			if do(api.Sub, do(api.Add, a, b), b) != a {
				t.Errorf("Sub doesn't take %d back from %d", b, a)
			}
		}
		if do(api.And, a, a) != a || do(api.Or, a, a) != a {
			t.Errorf("And or Or of %d and itself is another", a)
		}
	}
}

// P0 (R1, R4): no call panics, whatever it is given, and the same arguments have the same answer.
func TestSameAnswerAgain(t *testing.T) {
	ops := append(others(), api.Add, api.Sub, api.Mul, api.Div, api.And, api.Or, api.Xor, api.Less, api.Same)
	for _, op := range ops {
		has := num.Has(op)
		for _, a := range numbers()[:20] {
			v, how := num.Do(op, a, -a)
			if w, now := num.Do(op, a, -a); v != w || how != now {
				t.Errorf("Do(%d, %d, %d): first %d, %d, then %d, %d", op, a, -a, v, how, w, now)
			}
		}
		if num.Has(op) != has {
			t.Errorf("Has(%d): first %t", op, has)
		}
	}
}
