package norm_test

import (
	"testing"

	"joinery/api"
	"joinery/asm"
)

// laid is an instruction of another layout, with the place of the first function to which it leads, if it is a Jump or a Zero.
type laid struct {
	x  api.Ins
	to int
}

// ends: is there no way from an instruction to the next place?
func ends(x api.Ins) bool { return x.Op == api.Jump || x.Op == api.Ret }

// pieces answers where the pieces begin into which a function is cut, and in which order they are to stand.
func pieces(f []api.Ins, draw func(below int) int) (starts, turn []int) {
	starts = []int{0}
	for at := 1; at < len(f); at++ {
		if draw(3) == 0 {
			starts = append(starts, at)
		}
	}
	for i := range starts {
		turn = append(turn, i)
		k := draw(i + 1)
		turn[i], turn[k] = turn[k], turn[i]
	}
	return append(starts, len(f)), turn
}

// junk answers instructions that are never come to, some of which lead to where runs come.
func junk(f []api.Ins, draw func(below int) int) []laid {
	var l []laid
	for range draw(3) {
		l = append(l, []laid{{x: api.Ins{Op: api.Const, D: 1, N: 99}}, {x: api.Ins{Op: api.Add, D: 1, A: 2, B: 3}}, {x: api.Ins{Op: api.Zero, A: 1}, to: draw(len(f))}, {x: api.Ins{Op: api.Ret, A: 5}}}[draw(4)])
	}
	if len(l) > 0 {
		l = append(l, laid{x: api.Ins{Op: api.Jump}, to: draw(len(f))})
	}
	return l
}

// otherwise answers a function with its instructions in another order: the pieces of it are joined by jumps, the first one is entered by one, and between them stands what is never come to.
func otherwise(f []api.Ins, seed uint64) []api.Ins {
	draw := drawer(seed)
	starts, turn := pieces(f, draw)
	var l []laid
	places := map[int]int{}
	if turn[0] != 0 || draw(2) == 0 {
		l = append(l, laid{x: api.Ins{Op: api.Jump}, to: 0})
		l = append(l, junk(f, draw)...)
	}
	for _, p := range turn {
		for at := starts[p]; at < starts[p+1]; at++ {
			places[at] = len(l)
			l = append(l, laid{x: f[at], to: f[at].To})
		}
		if last := starts[p+1] - 1; !ends(f[last]) {
			l = append(l, laid{x: api.Ins{Op: api.Jump}, to: last + 1})
		}
		l = append(l, junk(f, draw)...)
	}
	// Some go by a jump to where another one leads.
	for i := range l {
		if x := l[i].x; (x.Op == api.Jump || x.Op == api.Zero) && draw(5) == 0 {
			places[1000+i] = len(l)
			l = append(l, laid{x: api.Ins{Op: api.Jump}, to: l[i].to})
			l[i].to = 1000 + i
		}
	}
	var g []api.Ins
	for _, x := range l {
		if x.x.Op == api.Jump || x.x.Op == api.Zero {
			x.x.To = places[x.to]
		}
		g = append(g, x.x)
	}
	return g
}

// P13.3: a function that is laid out in another order, with jumps, has the same form.
func TestLayouts(t *testing.T) {
	count := 0
	each(t, func(f []api.Ins) {
		want := text(formOf(t, f))
		for seed := range uint64(6) {
			g := otherwise(f, seed)
			if !asm.Right(g) {
				if len(g) <= api.MaxIns {
					t.Fatalf("%v of %v isn't right", g, f)
				}
				continue
			}
			count++
			if x := text(formOf(t, g)); x != want {
				t.Fatalf("%v: the form is\n%s\nof %v it is\n%s", f, want, g, x)
			}
		}
	})
	if count < 10000 {
		t.Errorf("no more than %d", count)
	}
}

// P13.3: by hand: in another order, entered by a jump over others, with instructions behind it or between that are never come to.
func TestLayoutsByHand(t *testing.T) {
	for _, same := range [][]string{
		{
			"mov s0 r0, call r1 r0 7, mov r2 s0, ret r2",
			"jump 3, mov r2 s0, ret r2, mov s0 r0, call r1 r0 7, jump 1",
			"jump 6, ret r2, mov r2 s0, jump 1, call r1 r0 7, jump 2, mov s0 r0, jump 4",
			"mov s0 r0, call r1 r0 7, mov r2 s0, ret r2, ret r1, jump 0",
			"mov s0 r0, jump 4, const s0 7, call r1 r1 8, call r1 r0 7, mov r2 s0, ret r2, add r1 r1 r1, jump 2",
		},
		{
			"zero r0 3, load r1 r2, jump 4, call r1 r2 3, ret r1",
			"zero r0 4, load r1 r2, ret r1, ret r1, call r1 r2 3, jump 2",
			"jump 5, ret r1, call r1 r2 3, jump 1, ret r0, zero r0 2, jump 7, load r1 r2, jump 9, jump 1",
		},
		{
			"mov r1 r0, mov r2 r0, add r3 r1 r2, swap r1 r2, jump 2",
			"jump 3, swap r1 r2, jump 5, mov r1 r0, mov r2 r0, add r3 r1 r2, jump 1",
		},
		{
			"jump 0",
			"jump 1, jump 0",
			"jump 2, ret r1, jump 3, jump 2",
		},
		{
			"mov r1 s3, call r2 r0 1, add r2 r2 r1, call r2 r2 2, ret r2",
			"jump 2, ret r2, mov r1 s3, call r2 r0 1, jump 7, call r2 r2 2, jump 1, add r2 r2 r1, jump 5",
		},
		// With a jump behind each.
		{"add r1 r1 r2, add r1 r1 r2, add r1 r1 r2, ret r1", "jump 6, add r1 r1 r2, jump 5, add r1 r1 r2, jump 1, ret r1, add r1 r1 r2, jump 3"},
	} {
		want := lines(formOf(t, parsed(t, split(same[0]))))
		for _, other := range same[1:] {
			hasText(t, other, want...)
		}
	}
}

// P13.3: a function whose instructions stand in the opposite order, as many as there may be.
func TestLayoutBackwards(t *testing.T) {
	const calls = 99
	var f, g []api.Ins
	for n := range calls {
		f = append(f, api.Ins{Op: api.Call, D: 1, A: 1, N: int64(n)})
	}
	f = append(f, api.Ins{Op: api.Ret, A: 1})
	g = append(g, api.Ins{Op: api.Jump, To: 2 * calls}, api.Ins{Op: api.Ret, A: 1})
	for n := calls - 1; n >= 0; n-- {
		next := 2*(calls-n) - 2
		if next == 0 {
			next = 1
		}
		g = append(g, f[n], api.Ins{Op: api.Jump, To: next})
	}
	if len(g) != api.MaxIns {
		t.Fatal(len(g))
	}
	has(t, g, lines(formOf(t, f))...)
}
