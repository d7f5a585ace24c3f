package refine_test

import (
	"math"
	"testing"

	"joinery/refine"
)

// told: Apart tells that of two things, in both orders.
func told(t *testing.T, rows []refine.Row, i, k int, want bool) {
	t.Helper()
	if refine.Apart(rows, i, k) != want || refine.Apart(rows, k, i) != want {
		t.Errorf("%v: %d and %d: %t, and the other way round %t; it ought to be %t", rows, i, k, refine.Apart(rows, i, k), refine.Apart(rows, k, i), want)
	}
}

// someRows are rows of several kinds: with circles, with marks, with ones that are alike.
func someRows() [][]refine.Row {
	return [][]refine.Row{
		nil,
		{},
		{row(1)},
		{row(1, thing(0))},
		{row(1, thing(1)), row(1, thing(0)), row(2)},
		{row(1, thing(2)), row(1, thing(0)), row(2)},
		{row(1, thing(3)), row(1, thing(-1)), row(1, thing(3)), row(1, mark(3, 3))},
		{row(7, mark(1, 2), thing(1)), row(7, mark(1, 2), thing(2)), row(7, mark(1, 2), thing(0)), row(7, mark(2, 1), thing(0)), row(7, mark(1, 2))},
		ring(6, 0),
		{row(0), row(0), row(1), row(1), row(0)},
	}
}

// P12.1: of things that are there.
func TestApart(t *testing.T) {
	rows := []refine.Row{row(1, thing(1)), row(1, thing(0)), row(2), row(1, mark(1, 1)), row(2, thing(0)), row(1, thing(0))}
	told(t, rows, 0, 1, false)
	told(t, rows, 0, 5, false)
	told(t, rows, 1, 5, false)
	told(t, rows, 0, 2, true)
	told(t, rows, 0, 3, true)
	told(t, rows, 2, 4, true)
	told(t, rows, 3, 5, true)
	told(t, rows, 4, 5, true)
}

// P12.1: nothing can be told apart from itself, whether it is there or not.
func TestApartOfItself(t *testing.T) {
	for _, rows := range someRows() {
		for i := range rows {
			told(t, rows, i, i, false)
		}
		for _, i := range farInts() {
			told(t, rows, i, i, false)
		}
	}
}

// P12.1: one that is not there can be told apart from one that is.
func TestApartOfOneNotThere(t *testing.T) {
	for _, rows := range someRows() {
		for i := range rows {
			for _, k := range notThere(len(rows)) {
				told(t, rows, i, int(k), true)
			}
		}
	}
}

// P12.1: two that are not there can be told apart, if they are not one.
func TestApartOfTwoNotThere(t *testing.T) {
	for _, rows := range someRows() {
		for _, i := range notThere(len(rows)) {
			for _, k := range notThere(len(rows)) {
				told(t, rows, int(i), int(k), i != k)
			}
		}
	}
	// Numbers of which only the upper or the lower bits are unlike.
	told(t, nil, math.MinInt, 0, true)
	told(t, nil, 1<<32, 0, true)
	told(t, ring(3, 0), 1<<32, 0, true)
	told(t, ring(3, 0), 1<<32+1, 1, true)
	told(t, ring(3, 0), 2-1<<32, 2, true)
}

// P12.1: what is led to by a mark of its number is not there any more than before.
func TestApartOfMarked(t *testing.T) {
	rows := []refine.Row{row(1, thing(2)), row(1, thing(3))}
	told(t, rows, 0, 1, true)
	told(t, rows, 2, 3, true)
	told(t, rows, 0, 2, true)
	told(t, rows, 2, 2, false)
}

// P12.1: spare room is no thing.
func TestApartOfSpareRoom(t *testing.T) {
	rows := []refine.Row{row(1), row(1), row(1)}
	told(t, rows, 1, 2, false)
	told(t, rows[:2], 1, 2, true)
	told(t, rows[:2], 0, 1, false)
	told(t, rows[:0], 0, 1, true)
	told(t, rows[:0], 0, 0, false)
}
