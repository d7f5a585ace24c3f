package refine_test

import (
	"math"
	"slices"
	"testing"

	"joinery/refine"
)

// some hands over rows of all kinds.
func some(hand func(rows []refine.Row)) {
	for _, rows := range someRows() {
		hand(rows)
	}
	for seed := range uint64(200) {
		hand(randomly(int(seed)%12, seed+700))
		hand(alike(1+int(seed)%4, 3, seed+900))
	}
}

// clone answers rows in memory of their own.
func clone(rows []refine.Row) []refine.Row {
	rows = slices.Clone(rows)
	for i, x := range rows {
		rows[i].To = slices.Clone(x.To)
	}
	return rows
}

// same: are rows the same? R3: a nil list and an empty one are.
func same(a, b []refine.Row) bool {
	return slices.EqualFunc(a, b, func(x, y refine.Row) bool {
		return x.Color == y.Color && slices.Equal(x.To, y.To)
	})
}

// fill writes into all the room of a list, its spare room included.
func fill[T any](l []T, v T) {
	room := l[:cap(l)]
	for i := range room {
		room[i] = v
	}
}

// apartOfAll answers what Apart tells of all pairs, also of some that are not there.
func apartOfAll(rows []refine.Row) []bool {
	var l []bool
	for i := -1; i <= len(rows); i++ {
		for k := -1; k <= len(rows); k++ {
			l = append(l, refine.Apart(rows, i, k))
		}
	}
	return l
}

// R3: no argument is changed, nor what stands behind its lists' ends; and that does not count.
func TestArgumentsStay(t *testing.T) {
	some(func(rows []refine.Row) {
		room := slices.Concat(clone(rows), []refine.Row{row(-7, thing(0), mark(2, 2)), row(-8)})
		var lists, were [][]refine.Ref
		for i, x := range room {
			list := slices.Concat(x.To, refs(mark(9, 9), thing(1), thing(-5)))
			lists, were = append(lists, list), append(were, slices.Clone(list))
			room[i].To = list[:len(x.To)]
		}
		was := clone(room)
		classes := refine.Classes(room[:len(rows)])
		pairs := apartOfAll(room[:len(rows)])
		if !same(room, was) {
			t.Fatalf("%v: changed to %v", was, room)
		}
		for i := range lists {
			if !slices.Equal(lists[i], were[i]) {
				t.Fatalf("%v: what thing %d leads to, or what is behind it, changed", rows, i)
			}
		}
		if c := refine.Classes(rows); !slices.Equal(c, classes) || !slices.Equal(apartOfAll(rows), pairs) {
			t.Fatalf("%v: %v, and with more room %v", rows, c, classes)
		}
	})
}

// R3: what is answered shares no memory with what was handed in, nor with another answer: whatever is changed, all others stay.
func TestAnswersAreNew(t *testing.T) {
	some(func(rows []refine.Row) {
		mine := clone(rows)
		a, other := refine.Classes(mine), refine.Classes(rows)
		kept := slices.Clone(other)
		for _, x := range mine {
			fill(x.To, mark(-77, -77))
		}
		fill(mine, row(-77))
		if !slices.Equal(a, kept) {
			t.Fatalf("%v: changed with its argument", rows)
		}
		fill(a, -77)
		// The one that was there is looked at ahead of a call, which might mend it.
		if !slices.Equal(other, kept) {
			t.Fatalf("%v: changed with another answer", rows)
		}
		if again := refine.Classes(rows); !slices.Equal(again, kept) {
			t.Fatalf("%v: %v, and then %v", rows, kept, again)
		}
	})
}

// R3, R4: what was handed in is not kept: other rows in the same memory are others, and an answer hangs on nothing ahead of it.
func TestArgumentsAreNotKept(t *testing.T) {
	room := make([]refine.Row, 40)
	lists := make([][3]refine.Ref, 40)
	var last, kept []int
	for seed := range uint64(500) {
		rows := randomly(int(seed)%40, seed)
		for i, x := range rows {
			n := copy(lists[i][:], x.To)
			room[i] = refine.Row{Color: x.Color, To: lists[i][:n]}
		}
		c := refine.Classes(room[:len(rows)])
		apart := workedApart(rows)
		if want := workedClasses(apart); !slices.Equal(c, want) {
			t.Fatalf("%v: %v; it ought to be %v", rows, c, want)
		}
		if n := len(rows); n > 1 && refine.Apart(room[:n], 0, n-1) != apart[0][n-1] {
			t.Fatalf("%v: Apart of the first and the last: %t", rows, !apart[0][n-1])
		}
		if !slices.Equal(last, kept) {
			t.Fatalf("%v: changed by another call", kept)
		}
		last, kept = c, slices.Clone(c)
	}
}

// R3: rows may share what they lead to, and one row may stand there many times.
func TestSharedLists(t *testing.T) {
	to := refs(thing(2), mark(1, 1), thing(0))
	hold(t, "one list", []refine.Row{{Color: 1, To: to}, {Color: 1, To: to}, {Color: 2, To: to}, {Color: 1, To: to[:2]}, {Color: 1, To: to[:2]}, {Color: 1, To: to[1:]}}, 0, 0, 1, 2, 2, 3)
	hold(t, "one row", slices.Repeat([]refine.Row{{Color: 1, To: to}}, 10), allAlike(10)...)
}

// R3: a nil list and an empty one are the same.
func TestNilAndEmpty(t *testing.T) {
	hold(t, "to nothing", []refine.Row{{Color: 1, To: nil}, {Color: 1, To: []refine.Ref{}}, {Color: 1, To: make([]refine.Ref, 0, 5)}, {Color: 1, To: refs(thing(0))[:0]}}, 0, 0, 0, 0)
	hold(t, "led to", []refine.Row{{Color: 2, To: refs(thing(2))}, {Color: 2, To: refs(thing(3))}, {To: nil}, {To: []refine.Ref{}}}, 0, 0, 1, 1)
	if a, b := refine.Classes(nil), refine.Classes([]refine.Row{}); len(a) != 0 || len(b) != 0 {
		t.Errorf("%v, and %v", a, b)
	}
}

// R4: the same again, each time.
func TestSameAnswerAgain(t *testing.T) {
	some(func(rows []refine.Row) {
		c, pairs := refine.Classes(rows), apartOfAll(rows)
		for range 3 {
			if b := refine.Classes(clone(rows)); !slices.Equal(b, c) || !slices.Equal(apartOfAll(clone(rows)), pairs) {
				t.Fatalf("%v: %v, and then %v", rows, c, b)
			}
		}
	})
}

// R1: no call panics, and each ends, whatever it is given.
func TestNoPanic(t *testing.T) {
	far := []int{-1, 0, 1, 2, 3, 4, math.MinInt, math.MinInt + 1, math.MinInt32, math.MaxInt32 + 1, 1 << 32, 1<<32 + 1, math.MaxInt - 1, math.MaxInt}
	for _, a := range far {
		for _, b := range far {
			for _, kind := range []int{0, -1, 1, a, b} {
				r, s := mark(kind, int64(a)), mark(a, int64(b))
				for _, rows := range [][]refine.Row{{row(a, r)}, {row(a, r, s), row(b, s)}, {row(b), row(a, s, thing(int64(b))), row(a, r, r), row(a, s, thing(int64(a)))}} {
					holdWords(t, rows)
					refine.Apart(rows, a, b)
				}
			}
			for _, rows := range someRows() {
				there := min(a, b) >= 0 && max(a, b) < len(rows)
				if !there && refine.Apart(rows, a, b) != (a != b) {
					t.Fatalf("%v: Apart of %d and %d: %t", rows, a, b, a == b)
				}
			}
		}
	}
}
