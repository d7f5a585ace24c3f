package refine_test

import (
	"math"
	"slices"
	"testing"

	"joinery/refine"
)

// P12.1: a mark is known by its Kind and N.
func TestMarks(t *testing.T) {
	hold(t, "the same", leading(refs(mark(2, 1)), refs(mark(2, 1)), refs(mark(2, 1))), 0, 0, 0)
	hold(t, "unlike kinds", leading(refs(mark(2, 1)), refs(mark(1, 1)), refs(mark(2, 1))), 0, 1, 0)
	hold(t, "unlike numbers", leading(refs(mark(2, 1)), refs(mark(2, 2)), refs(mark(2, 1))), 0, 1, 0)
	hold(t, "unlike kinds and numbers", leading(refs(mark(2, 1)), refs(mark(1, 2)), refs(mark(2, 1)), refs(mark(1, 2))), 0, 1, 0, 1)
	hold(t, "kinds below 0", leading(refs(mark(-2, 1)), refs(mark(2, 1)), refs(mark(-1, 1)), refs(mark(-2, 1))), 0, 1, 2, 0)
	hold(t, "the least kind", leading(refs(mark(math.MinInt, 0)), refs(thing(0)), refs(mark(math.MaxInt, 0)), refs(mark(math.MinInt, 0))), 0, 1, 2, 0)
}

// P12.1: kinds and numbers of marks are any numbers: those of which only some bits are unlike are unlike.
func TestMarksOfAllSizes(t *testing.T) {
	var kinds, numbers []refine.Row
	for _, n := range farInts() {
		if n != refine.Thing {
			kinds = append(kinds, row(0, mark(n, 3)))
		}
		numbers = append(numbers, row(0, mark(4, int64(n))))
	}
	hold(t, "kinds", slices.Concat(kinds, kinds), twice(allApart(len(kinds)))...)
	hold(t, "numbers", slices.Concat(numbers, numbers), twice(allApart(len(numbers)))...)
	var both []refine.Row
	for kind := -3; kind <= 3; kind++ {
		for n := int64(-3); n <= 3; n++ {
			if kind != refine.Thing {
				both = append(both, row(0, mark(kind, n)))
			}
		}
	}
	hold(t, "both", slices.Concat(both, both), twice(allApart(len(both)))...)
}

// P12.1: a mark's N is no thing's number, though there is one of that number: marks of things that are alike are unlike.
func TestMarksAreNoThings(t *testing.T) {
	hold(t, "of things that are alike", []refine.Row{row(1, mark(1, 2)), row(1, mark(1, 3)), row(2), row(2)}, 0, 1, 2, 2)
	hold(t, "of things that are unlike", []refine.Row{row(1, mark(1, 2)), row(1, mark(1, 2)), row(2), row(3)}, 0, 0, 1, 2)
	hold(t, "of themselves", leading(refs(mark(1, 0)), refs(mark(1, 1)), refs(mark(1, 2))), 0, 1, 2)
	hold(t, "below 0, of themselves", leading(refs(mark(-1, 0)), refs(mark(-1, 1))), 0, 1)
}

// P12.1: a mark and a thing at one place tell apart, whatever N they have.
func TestMarkAndThing(t *testing.T) {
	for n := range int64(3) {
		for kind := -3; kind <= 3; kind++ {
			if kind == refine.Thing {
				continue
			}
			for by := range int64(3) {
				hold(t, "alone", []refine.Row{row(1, thing(by)), row(1, mark(kind, n)), row(2)}, 0, 1, 2)
				hold(t, "between others", []refine.Row{row(1, thing(2), thing(by), mark(5, 5)), row(1, thing(2), mark(kind, n), mark(5, 5)), row(2)}, 0, 1, 2)
			}
		}
	}
	hold(t, "in a circle", []refine.Row{row(1, thing(1)), row(1, thing(2)), row(1, mark(1, 0))}, 0, 1, 2)
}

// notThere are numbers that none of so many things has.
func notThere(things int) []int64 {
	n := int64(things)
	l := []int64{-1, -2, -n, -n - 1, n, n + 1, 2 * n, 1 << 8, 1<<8 + 1, 1 << 16, 1<<16 + 1, 1 << 31, 1 << 32, 1<<32 + 1, 1 << 40, -1 << 31, -1 << 32, 1 - 1<<32, -1 << 40, 1 << 62, math.MaxInt64 - 1, math.MaxInt64, math.MinInt64, math.MinInt64 + 1}
	slices.Sort(l)
	return slices.DeleteFunc(slices.Compact(l), func(x int64) bool { return x >= 0 && x < n })
}

// P12.1: a reference to a thing that is not there is a mark: unlike all others but those of its own number.
func TestNotThere(t *testing.T) {
	for n := 2; n < 9; n++ {
		for _, a := range notThere(n) {
			for _, b := range notThere(n) {
				rows := []refine.Row{row(1, thing(a)), row(1, thing(b))}
				for len(rows) < n {
					rows = append(rows, row(2))
				}
				want := append([]int{0, 1}, slices.Repeat([]int{2}, n-2)...)
				if a == b {
					want = append([]int{0, 0}, slices.Repeat([]int{1}, n-2)...)
				}
				hold(t, "not there", rows, want...)
			}
		}
	}
}

// P12.1: it is not the same as a mark of another kind with that number, nor as any thing.
func TestNotThereAndOthers(t *testing.T) {
	for _, a := range notThere(4) {
		for _, kind := range []int{-1, 1, 2, math.MinInt, math.MaxInt, 1 << 32} {
			hold(t, "a mark", []refine.Row{row(1, thing(a)), row(1, mark(kind, a)), row(1, thing(a)), row(1, mark(kind, a))}, 0, 1, 0, 1)
		}
		for n := range int64(4) {
			hold(t, "a thing", []refine.Row{row(1, thing(a)), row(1, thing(n)), row(2), row(3)}, 0, 1, 2, 3)
			hold(t, "a thing, told first", []refine.Row{row(1, thing(n)), row(1, thing(a)), row(2), row(3)}, 0, 1, 2, 3)
		}
		hold(t, "nothing", []refine.Row{row(1, thing(a)), row(1), row(2), row(3)}, 0, 1, 2, 3)
	}
}

// P12.1: the first thing and the last one are there, the ones beside them are not.
func TestFirstAndLastAreThere(t *testing.T) {
	for n := 3; n < 12; n++ {
		last := int64(n - 1)
		rows := []refine.Row{row(1, thing(0)), row(1, thing(last))}
		for len(rows) < n {
			rows = append(rows, row(1, thing(0)))
		}
		hold(t, "alike", rows, allAlike(n)...)
		rows[n-1] = row(1, thing(last+1))
		want := slices.Concat([]int{0, 1}, slices.Repeat([]int{0}, n-3), []int{2})
		hold(t, "the last leads to one that is not there", rows, want...)
		rows[n-1] = row(1, thing(-1))
		hold(t, "the last leads to one ahead of all", rows, want...)
	}
}

// P12.1: how many things there are says which numbers are there: spare room is none.
func TestSpareRoomIsNoThing(t *testing.T) {
	rows := []refine.Row{row(1, thing(2)), row(1, thing(3)), row(2), row(2)}
	hold(t, "all four", rows, 0, 0, 1, 1)
	hold(t, "three", rows[:3], 0, 1, 2)
	hold(t, "two", rows[:2], 0, 1)
}

// P12.1: two references to things are the same at one place just if these can't be told apart.
func TestThings(t *testing.T) {
	hold(t, "to one", []refine.Row{row(1, thing(2)), row(1, thing(2)), row(2)}, 0, 0, 1)
	hold(t, "to two that are alike", []refine.Row{row(1, thing(2)), row(1, thing(3)), row(2), row(2)}, 0, 0, 1, 1)
	hold(t, "to two that are unlike", []refine.Row{row(1, thing(2)), row(1, thing(3)), row(2), row(3)}, 0, 1, 2, 3)
	hold(t, "to two that are alike, one step on", []refine.Row{row(1, thing(2)), row(1, thing(3)), row(1, thing(4)), row(1, thing(5)), row(2), row(2)}, 0, 0, 1, 1, 2, 2)
	hold(t, "to two that are unlike, one step on", []refine.Row{row(1, thing(2)), row(1, thing(3)), row(1, thing(4)), row(1, thing(5)), row(2), row(3)}, 0, 1, 2, 3, 4, 5)
	hold(t, "to themselves and to nothing", []refine.Row{row(1, thing(0)), row(1), row(1, thing(0))}, 0, 1, 0)
}
