package norm_test

import (
	"math"
	"slices"
	"strings"
	"testing"

	"joinery/api"
	"joinery/asm"
)

// wrongFunctions are functions that aren't right.
func wrongFunctions() map[string][]api.Ins {
	ret, pad := api.Ins{Op: api.Ret}, api.Ins{Op: api.Mov, D: 3, A: 4}
	return map[string][]api.Ins{
		"nil":                             nil,
		"none":                            {},
		"no end":                          {pad},
		"no end behind a ret":             {ret, pad},
		"const at the end":                {ret, {Op: api.Const, N: 5}},
		"zero at the end":                 {pad, {Op: api.Zero, To: 0}},
		"add at the end":                  {{Op: api.Add}},
		"no Op":                           {{}, ret},
		"an Op of 19":                     {{Op: 19}, ret},
		"an Op of -1":                     {ret, {Op: -1}, ret},
		"an Op far away":                  {{Op: math.MaxInt}, {Op: math.MinInt}, ret},
		"a field to spare":                {pad, {Op: api.Ret, D: 1}},
		"an N to spare":                   {{Op: api.Add, N: 1}, ret},
		"a mov with a To":                 {{Op: api.Mov, To: 1}, ret},
		"a slot that is needed":           {{Op: api.Ret, A: api.Regs}},
		"a slot that gets a number":       {{Op: api.Load, D: api.Regs}, ret},
		"no place":                        {{Op: api.Mov, A: api.Locs}, ret},
		"a place below 0":                 {{Op: api.Swap, D: -1}, ret},
		"a place far away":                {{Op: api.Const, D: math.MaxInt}, ret},
		"a call too high":                 {{Op: api.Call, N: api.MaxCall + 1}, ret},
		"a call below 0":                  {{Op: api.Call, N: -1}, ret},
		"a jump to behind the last":       {pad, {Op: api.Jump, To: 2}},
		"a jump to where MaxIns would do": {pad, {Op: api.Jump, To: 199}},
		"a jump far away":                 {{Op: api.Jump, To: math.MaxInt}, {Op: api.Jump, To: math.MinInt}},
		"a zero below 0":                  {{Op: api.Zero, To: -1}, ret},
		"a zero to behind the last":       {{Op: api.Zero, To: 2}, ret},
		"MaxIns and one more":             long(api.MaxIns + 1),
		"MaxIns and one more, all round":  slices.Repeat([]api.Ins{{Op: api.Jump}}, api.MaxIns+1),
		"many":                            long(5000),
		"a fault that no way reaches":     {ret, {Op: api.Jump, To: 3}, ret},
		"a fault behind a circle":         {{Op: api.Jump, To: 0}, {Op: api.Ret, A: 8}},
		"a fault behind what is cut":      {{Op: api.Mov, D: 1, A: 8}, {Op: api.Ret, A: 1}, {Op: api.Ret, A: 24}},
	}
}

// rightTexts are functions of all kinds: that end, that go round, that need what is nothing, that have one number in many places.
func rightTexts() []string {
	return []string{
		"ret r0",
		"jump 0",
		"mov r1 r0, jump 2, ret r1",
		"mov r1 r0, jump 0",
		"mov r1 s0, ret r1",
		"mov s0 r0, call r1 r0 7, mov r2 s0, ret r2",
		"const r1 5, call r2 r0 1, add r3 r1 r2, ret r3",
		"const r1 5, zero r0 4, const r1 5, call r2 r1 1, sub r0 r0 r1, zero r0 1, mov r3 s1, ret r3",
		"mov r1 r0, zero r1 4, call r2 r1 3, jump 0, jump 6, ret r1, add r1 r1 r1, ret r1",
		"const r7 3, const r6 1, zero r7 5, sub r7 r7 r6, jump 2, mov s15 r0, mov r1 s15, ret r1",
		"zero r0 2, jump 1, zero r1 2, jump 2",
		"zero r0 5, mov r1 s0, add r2 r1 r1, const s1 5, jump 5, mov r3 s1, ret r3",
		"const r1 5, const r2 5, zero r0 5, swap r1 r2, jump 2, ret r1",
		"const r7 1, xor r2 r0 r0, call r3 r2 5, swap r3 s3, add r2 r2 r7, less r4 r2 r1, zero r4 8, jump 2, mov r5 s3, ret r5",
		"zero r0 4, zero r1 6, zero r2 8, jump 0, call r0 r0 1, jump 1, call r1 r1 2, jump 2, div r3 r0 r1, store r3 r0, load r2 r3, ret r2",
		"mov r1 r0, mov r2 r0, add r3 r1 r2, swap r1 r2, jump 2",
		"call r1 r0 1, mov r2 r1, mov s4 r1, add r1 r1 r2, mov r3 s4, zero r3 1, ret r1",
	}
}

// drawer answers a way to draw numbers from 0 on below a bound: always the same ones of one seed.
func drawer(seed uint64) func(below int) int {
	return func(below int) int {
		seed = seed*6364136223846793005 + 1442695040888963407
		return int(seed>>33) % below
	}
}

// randomly answers a function of so many instructions, a number's. Its places and its numbers are few, so that what they have meets; every third one begins with one number in many places.
func randomly(n int, seed uint64) []api.Ins {
	draw := drawer(seed)
	regs, places, numbers := 2+draw(4), []int{0, 1, 2, 8, 9, 10, 23, 3, 11}[:4+draw(6)], 1+draw(3)
	place := func() int { return places[draw(len(places))] }
	var f []api.Ins
	for at := range n {
		x := api.Ins{Op: []int{api.Const, api.Mov, api.Zero, api.Mov, api.Swap, api.Zero, api.Jump, api.Call, api.Add, api.Load, api.Store, api.Ret}[draw(6+draw(7))]}
		if at < n/4 && seed%3 < 2 {
			x.Op = []int{api.Const, api.Mov}[seed%3]
		}
		if at == n-1 {
			x.Op = []int{api.Jump, api.Ret}[draw(2)]
		}
		switch x.Op {
		case api.Const:
			x.D, x.N = place(), int64(draw(numbers))
		case api.Mov, api.Swap:
			x.D, x.A = place(), place()
			if at < n/4 && seed%3 == 1 {
				x.A = draw(2)
			}
		case api.Add:
			x.Op += draw(9)
			x.D, x.A, x.B = draw(regs), draw(regs), draw(regs)
		case api.Load:
			x.D, x.A = draw(regs), draw(regs)
		case api.Call:
			x.D, x.A, x.N = draw(regs), draw(regs), int64(draw(2)*draw(100))
		case api.Store:
			x.A, x.B = draw(regs), draw(regs)
		case api.Jump:
			x.To = draw(n)
		case api.Zero:
			x.A, x.To = draw(regs), draw(n)
		case api.Ret:
			x.A = draw(regs)
		}
		f = append(f, x)
	}
	return f
}

// moving answers a function of so many parts, a number's: each needs two registers, moves what some places have, and goes on at another part, or at one of two. All registers are one of a few at first, so that many values are alike, or unlike only by what is far behind.
func moving(parts int, seed uint64) []api.Ins {
	draw := drawer(seed)
	places := []int{0, 1, 2, 3, 8, 9}[:3+draw(4)]
	place := func() int { return places[draw(len(places))] }
	var f []api.Ins
	for _, l := range places[1:] {
		f = append(f, api.Ins{Op: api.Mov, D: l, A: draw(2)})
	}
	begin := len(f)
	part := func() int { return begin + 4*draw(parts) }
	for range parts {
		need := []api.Ins{{Op: api.Store, A: draw(3), B: draw(3)}, {Op: api.Add, D: 4, A: draw(3), B: draw(3)}, {Op: api.Zero, A: draw(3), To: part()}}[draw(3)]
		move := []api.Ins{{Op: api.Swap, D: place(), A: place()}, {Op: api.Mov, D: place(), A: place()}, {Op: api.Mov, D: draw(3), A: 4}}[draw(3)*draw(2)]
		last := []api.Ins{{Op: api.Swap, D: place(), A: place()}, {Op: api.Jump, To: part()}}[draw(2)]
		f = append(f, need, move, api.Ins{Op: api.Swap, D: place(), A: place()}, last)
	}
	return append(f, api.Ins{Op: api.Jump, To: part()})
}

// straight answers a function of so many instructions, each of which is a node's, in their order.
func straight(n int) []api.Ins {
	return append(slices.Repeat([]api.Ins{{Op: api.Add, D: 1, A: 2, B: 3}}, n-1), api.Ins{Op: api.Ret})
}

// long answers a function of so many instructions that moves, and ends.
func long(n int) []api.Ins {
	return append(slices.Repeat([]api.Ins{{Op: api.Mov, D: 3, A: 4}}, n-1), api.Ins{Op: api.Ret, A: 3})
}

// split parts a function's text at its commas.
func split(text string) string { return strings.ReplaceAll(text, ", ", "\n") + "\n" }

// each hands over functions of all kinds.
func each(t *testing.T, hand func(f []api.Ins)) {
	t.Helper()
	var fs [][]api.Ins
	for _, text := range rightTexts() {
		fs = append(fs, parsed(t, split(text)))
	}
	for seed := range uint64(1000) {
		fs = append(fs, randomly(1+int(seed)%30, seed), moving(1+int(seed)%7, seed))
	}
	fs = append(fs, long(200), straight(60), randomly(60, 7), randomly(200, 8), moving(40, 9))
	for _, f := range fs {
		if !asm.Right(f) {
			t.Fatalf("%v isn't right", f)
		}
		hand(f)
	}
}
