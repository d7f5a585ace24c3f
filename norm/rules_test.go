package norm_test

import (
	"math"
	"slices"
	"testing"

	"joinery/api"
	"joinery/norm"
)

// some hands over functions, right and wrong.
func some(t *testing.T, hand func(f []api.Ins)) {
	t.Helper()
	i := 0
	each(t, func(f []api.Ins) {
		if i++; i%3 == 0 || i < 20 {
			hand(f)
		}
	})
	for _, f := range wrongFunctions() {
		hand(f)
	}
}

// answer is what a call answers, as a text.
func answer(f []api.Ins) string {
	x, e := norm.Of(f)
	return told(x, e)
}

func told(x api.Form, e api.Errno) string { return text(x) + "\n" + string(rune('0'+int(e))) }

// fill writes into all the room of a list, its spare room included.
func fill[T any](l []T, v T) {
	room := l[:cap(l)]
	for i := range room {
		room[i] = v
	}
}

// scrawl writes into all the room of a form.
func scrawl(x api.Form) {
	for _, node := range x.Nodes {
		fill(node.Args, api.Src{Kind: -77, N: -77})
		fill(node.Outs, -77)
	}
	for _, v := range x.Vals {
		fill(v.From, api.Src{Kind: -77, N: -77})
	}
	fill(x.Nodes, api.Node{Op: -77})
	fill(x.Vals, api.Value{At: -77})
}

// R3: no argument is changed, nor what stands behind its end; and that does not count.
func TestArgumentsStay(t *testing.T) {
	some(t, func(f []api.Ins) {
		room := slices.Concat(f, slices.Repeat([]api.Ins{{Op: 77, D: 1, A: 2, B: 3, N: 4, To: 5}, {Op: api.Ret, A: 1}}, 3))
		was := slices.Clone(room)
		a := answer(room[:len(f)])
		if !slices.Equal(room, was) {
			t.Fatalf("%v: changed", f)
		}
		if b := answer(slices.Clip(slices.Clone(f))); a != b {
			t.Fatalf("%v:\n%s\nand with more room\n%s", f, b, a)
		}
	})
}

// R3: what is answered shares no memory with what was handed in, nor with another answer: whatever is changed, all others stay.
func TestAnswersAreNew(t *testing.T) {
	some(t, func(f []api.Ins) {
		list := slices.Clone(f)
		x, e := norm.Of(list)
		other, _ := norm.Of(f)
		kept := told(other, e)
		fill(list, api.Ins{Op: api.Const, D: 5, N: 99})
		if told(x, e) != kept {
			t.Fatalf("%v: changed with its argument", f)
		}
		scrawl(x)
		// The one that was there is looked at ahead of a call, which might mend it.
		if told(other, e) != kept {
			t.Fatalf("%v: changed with another answer", f)
		}
		if again := answer(f); again != kept {
			t.Fatalf("%v:\n%s\nand then\n%s", f, kept, again)
		}
	})
}

// apart: has each list room of its own, spare room too? All of it gets the list's mark, and must have that when all others have theirs.
func apart[T comparable](lists [][]T, mark func(n int) T) bool {
	for n, l := range lists {
		fill(l, mark(n))
	}
	for n, l := range lists {
		for _, x := range l[:cap(l)] {
			if x != mark(n) {
				return false
			}
		}
	}
	return true
}

// R3: no two lists of one answer share any room.
func TestListsAreApart(t *testing.T) {
	some(t, func(f []api.Ins) {
		x, _ := norm.Of(f)
		var sources [][]api.Src
		var outs [][]int
		for _, node := range x.Nodes {
			sources, outs = append(sources, node.Args), append(outs, node.Outs)
		}
		for _, v := range x.Vals {
			sources = append(sources, v.From)
		}
		if !apart(sources, func(n int) api.Src { return api.Src{Kind: 1000 + n, N: int64(n)} }) || !apart(outs, func(n int) int { return 1000 + n }) {
			t.Fatalf("%v: two lists share room", f)
		}
	})
}

// R3, R4: what was handed in is not kept: another function in the same memory is another one, and an answer hangs on nothing ahead of it.
func TestArgumentsAreNotKept(t *testing.T) {
	list := make([]api.Ins, api.MaxIns)
	var last api.Form
	kept := text(last)
	for seed := range uint64(300) {
		f := randomly(1+int(seed)%40, seed+5000)
		if seed%2 == 0 {
			f = moving(1+int(seed)%6, seed+5000)
		}
		x := holdWords(t, list[:copy(list, f)])
		if text(last) != kept {
			t.Fatalf("%s: changed by another call", kept)
		}
		last, kept = x, text(x)
	}
}

// R3: a nil list and an empty one are the same.
func TestNilAndEmpty(t *testing.T) {
	for _, f := range [][]api.Ins{nil, {}, make([]api.Ins, 0, 9), long(3)[:0]} {
		if x, e := norm.Of(f); e != 1 || !empty(x) {
			t.Errorf("%d, and\n%s", e, text(x))
		}
	}
}

// R4: the same again, each time.
func TestSameAnswerAgain(t *testing.T) {
	some(t, func(f []api.Ins) {
		a := answer(f)
		for range 3 {
			if b := answer(slices.Clone(f)); a != b {
				t.Fatalf("%v:\n%s\nand then\n%s", f, a, b)
			}
		}
	})
}

// R1: no call panics, and each ends, whatever it is given.
func TestNoPanic(t *testing.T) {
	far := []int{-1, math.MinInt, math.MinInt32, math.MaxInt, 0, 1, 2, 8, 23, 24, 99, 100, 200}
	for op := -2; op <= 21; op++ {
		for _, v := range far {
			for _, x := range []api.Ins{{Op: op, D: v}, {Op: op, A: v}, {Op: op, B: v}, {Op: op, N: int64(v)}, {Op: op, To: v}, {Op: op, D: v, A: v, B: v, N: int64(v), To: v}} {
				for _, f := range [][]api.Ins{{x}, {x, {Op: api.Ret}}, {{Op: api.Jump, To: 1}, x, {Op: api.Ret}}, {{Op: api.Mov, D: 1, A: 9}, x, {Op: api.Zero, A: 0, To: 1}, {Op: api.Ret, A: 1}}} {
					holdWords(t, f)
				}
			}
		}
	}
}

// R1: the greatest functions of each kind end, too: circles in which all places differ, many ways to one node.
func TestGreatestEnd(t *testing.T) {
	zeros := []api.Ins{}
	for n := range api.MaxIns - 1 {
		zeros = append(zeros, api.Ins{Op: api.Zero, A: n % 8, To: n * 7 % (api.MaxIns - 1)})
	}
	zeros = append(zeros, api.Ins{Op: api.Ret, A: 7})
	one := []api.Ins{}
	for n := range api.MaxIns - 1 {
		one = append(one, api.Ins{Op: api.Zero, A: n % 8, To: 0})
	}
	one = append(one, api.Ins{Op: api.Jump, To: 0})
	for _, f := range [][]api.Ins{zeros, one, straight(api.MaxIns), long(api.MaxIns), moving(48, 1), moving(48, 2), randomly(200, 3), randomly(200, 4), randomly(200, 5)} {
		if len(f) > api.MaxIns {
			t.Fatal(len(f))
		}
		sound(t, f, holdWords(t, f))
	}
}
