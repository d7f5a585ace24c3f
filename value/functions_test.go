package value_test

import (
	"slices"
	"testing"

	"joinery/api"
	"joinery/asm"
)

// rightTexts are functions of all kinds: that end, that go round, that need what is nothing.
func rightTexts() []string {
	return []string{
		"ret r0\n",
		"jump 0\n",
		"mov r1 r0\njump 2\nret r1\n",
		"mov r1 r0\njump 0\n",
		"mov r1 s0\nret r1\n",
		"mov s0 r0\ncall r1 r0 7\nmov r2 s0\nret r2\n",
		"mov s0 r1\nconst r1 5\nswap s0 r2\nret r1\n",
		"mov r1 r0\nzero r1 0\nret r1\n",
		"const r1 5\ncall r2 r0 1\nadd r3 r1 r2\nret r3\n",
		"const r1 5\nzero r0 4\nconst r1 5\ncall r2 r1 1\nsub r0 r0 r1\nzero r0 1\nmov r3 s1\nret r3\n",
		"mov r1 r0\nzero r1 4\ncall r2 r1 3\njump 0\njump 6\nret r1\nadd r1 r1 r1\nret r1\n",
		"const r7 3\nconst r6 1\nzero r7 5\nsub r7 r7 r6\njump 2\nmov s15 r0\nmov r1 s15\nret r1\n",
		"zero r0 2\njump 1\nzero r1 2\njump 2\n",
		"zero r0 3\nconst r1 2\njump 1\nmov r2 r1\njump 0\n",
		"zero r0 5\nmov r1 s0\nadd r2 r1 r1\nconst s1 5\njump 5\nmov r3 s1\nret r3\n",
		"const r1 5\nconst r2 5\nzero r0 5\nswap r1 r2\njump 2\nret r1\n",
		"const r7 1\nxor r2 r0 r0\ncall r3 r2 5\nswap r3 s3\nadd r2 r2 r7\nless r4 r2 r1\nzero r4 8\njump 2\nmov r5 s3\nret r5\n",
		"zero r0 4\nzero r1 6\nzero r2 8\njump 0\ncall r0 r0 1\njump 1\ncall r1 r1 2\njump 2\ndiv r3 r0 r1\nstore r3 r0\nload r2 r3\nret r2\n",
	}
}

// drawer answers a way to draw numbers from 0 on below a bound: always the same ones of one seed.
func drawer(seed uint64) func(below int) int {
	return func(below int) int {
		seed = seed*6364136223846793005 + 1442695040888963407
		return int(seed>>33) % below
	}
}

// randomly answers a function of so many instructions, a number's. Its places and its numbers are few, so that what they have meets; every other one begins with numbers.
func randomly(n int, seed uint64) []api.Ins {
	draw := drawer(seed)
	regs, places, numbers := 2+draw(4), []int{0, 1, 2, 8, 9, 10, 23, 3, 11}[:4+draw(6)], 1+draw(3)
	place := func() int { return places[draw(len(places))] }
	var f []api.Ins
	for at := range n {
		x := api.Ins{Op: []int{api.Const, api.Mov, api.Zero, api.Mov, api.Swap, api.Zero, api.Jump, api.Call, api.Add, api.Load, api.Store, api.Ret}[draw(6+draw(7))]}
		if at < n/4 && seed%2 == 0 {
			x.Op = api.Const
		}
		if at == n-1 {
			x.Op = []int{api.Jump, api.Ret}[draw(2)]
		}
		switch x.Op {
		case api.Const:
			x.D, x.N = place(), int64(draw(numbers))
		case api.Mov, api.Swap:
			x.D, x.A = place(), place()
		case api.Add:
			x.Op += draw(9)
			x.D, x.A, x.B = draw(regs), draw(regs), draw(regs)
		case api.Load, api.Call:
			x.D, x.A = draw(regs), draw(regs)
		case api.Store:
			x.A, x.B = draw(regs), draw(regs)
		case api.Jump:
			x.To = draw(n)
		case api.Zero:
			x.A, x.To = draw(regs), draw(n)
		case api.Ret:
			x.A = draw(regs)
		}
		f = append(f, x)
	}
	return f
}

// inParts answers a function of so many parts, a number's: each is skipped, or moves what some slot has, needs it, and puts a number there or into another.
func inParts(parts int, seed uint64) []api.Ins {
	draw := drawer(seed)
	slot := func() int { return 8 + draw(1+parts/2) }
	var f []api.Ins
	for part := range parts {
		need := []api.Ins{{Op: api.Load, D: 2, A: 1}, {Op: api.Add, D: 3, A: 1, B: draw(3)}, {Op: api.Call, D: 1, A: 1}, {Op: api.Zero, A: 1, To: 4 * draw(parts)}, {Op: api.Store, A: 0, B: 1}}[draw(5)]
		give := []api.Ins{{Op: api.Mov, D: slot(), A: draw(3)}, {Op: api.Const, D: slot(), N: int64(draw(2))}, {Op: api.Mov, D: slot(), A: slot()}}[draw(3)]
		skip := 4 * (part + 1 + draw(2)*draw(parts-part))
		if draw(8) == 0 {
			skip = 4 * draw(parts)
		}
		f = append(f, api.Ins{Op: api.Zero, A: draw(2), To: skip}, api.Ins{Op: api.Mov, D: 1, A: slot()}, need, give)
	}
	return append(f, api.Ins{Op: api.Mov, D: 1, A: slot()}, api.Ins{Op: api.Ret, A: 1})
}

// straight answers a function of so many instructions, each of which is a node's, in their order.
func straight(n int) []api.Ins {
	return append(slices.Repeat([]api.Ins{{Op: api.Add, D: 1, A: 2, B: 3}}, n-1), api.Ins{Op: api.Ret})
}

// long answers a function of so many instructions that moves, and ends.
func long(n int) []api.Ins {
	return append(slices.Repeat([]api.Ins{{Op: api.Mov, D: 3, A: 4}}, n-1), api.Ins{Op: api.Ret, A: 3})
}

// each hands over functions of all kinds.
func each(t *testing.T, hand func(f []api.Ins)) {
	t.Helper()
	var fs [][]api.Ins
	for _, text := range rightTexts() {
		fs = append(fs, parsed(t, text))
	}
	for seed := range uint64(1000) {
		fs = append(fs, randomly(1+int(seed)%30, seed), inParts(1+int(seed)%7, seed))
	}
	for _, n := range []int{60, 200} {
		fs = append(fs, long(n), straight(n), backwards(n), inTurn(n/4), randomly(n, uint64(n)))
	}
	for _, f := range fs {
		if !asm.Right(f) {
			t.Fatalf("%v isn't right", f)
		}
		hand(f)
	}
}

// cuts are lists of several lengths for a function of so many instructions: none, all, some.
func cuts(n int) [][]bool {
	l := [][]bool{nil, {false, true}, slices.Repeat([]bool{true}, n+3)}
	for k := 2; k <= 4; k++ {
		some := make([]bool, n)
		for i := range some {
			some[i] = i%k == k-1
		}
		l = append(l, some)
	}
	return l
}

// eachCut hands over functions of all kinds, with cut lists of several lengths.
func eachCut(t *testing.T, hand func(f []api.Ins, cut []bool)) {
	t.Helper()
	each(t, func(f []api.Ins) {
		for _, cut := range cuts(len(f)) {
			hand(f, cut)
		}
	})
}

// backwards answers a function of so many instructions in which r1 is 5 at first, and each zero leads back to the one ahead of it: the last of all makes r1 another number, and so the fact of one after another falls, the first one's at last.
func backwards(n int) []api.Ins {
	f := []api.Ins{{Op: api.Const, D: 1, N: 5}, {Op: api.Zero, A: 0, To: 1}}
	for at := 2; at < n-2; at++ {
		f = append(f, api.Ins{Op: api.Zero, To: at - 1})
	}
	return append(f, api.Ins{Op: api.Const, D: 1, N: 6}, api.Ins{Op: api.Jump, To: n - 3})
}

// inTurn answers a function of so many parts, each of which is cut only since the one ahead of it is: that gives s0 a number, if it isn't.
func inTurn(parts int) []api.Ins {
	var f []api.Ins
	for range parts - 1 {
		next := len(f) + 4
		f = append(f, api.Ins{Op: api.Zero, A: 0, To: next}, api.Ins{Op: api.Mov, D: 1, A: 8}, api.Ins{Op: api.Load, D: 2, A: 1}, api.Ins{Op: api.Mov, D: 8, A: 2})
	}
	return append(f, api.Ins{Op: api.Mov, D: 1, A: 8}, api.Ins{Op: api.Jump, To: len(f) + 2}, api.Ins{Op: api.Ret, A: 1}, api.Ins{Op: api.Ret, A: 0})
}
