package refine_test

import (
	"slices"
	"testing"

	"joinery/refine"
)

// ring answers things of one colour in a circle: each leads to the next one, the last to the first. The first stands at that place.
func ring(n, at int) []refine.Row {
	var rows []refine.Row
	for i := range n {
		rows = append(rows, row(3, thing(int64(at+(i+1)%n))))
	}
	return rows
}

// P12.1: things that lead to themselves.
func TestThemselves(t *testing.T) {
	self := func(n int64, color int) refine.Row { return row(color, thing(n)) }
	hold(t, "alike", []refine.Row{self(0, 1), self(1, 1), self(2, 1)}, 0, 0, 0)
	hold(t, "of two colours", []refine.Row{self(0, 1), self(1, 2), self(2, 1)}, 0, 1, 0)
	hold(t, "and to one that does", []refine.Row{self(0, 1), self(0, 1), self(1, 1)}, 0, 0, 0)
	hold(t, "twice", []refine.Row{row(1, thing(0), thing(0)), row(1, thing(1), thing(0)), row(1, thing(0))}, 0, 0, 1)
	hold(t, "with unlike marks", []refine.Row{row(1, thing(0), mark(1, 0)), row(1, thing(1), mark(1, 1)), row(1, thing(2), mark(1, 0))}, 0, 1, 0)
}

// P12.1: things in a circle that can't be told apart, circles of unlike lengths among them.
func TestCirclesAlike(t *testing.T) {
	for n := 1; n <= 40; n++ {
		hold(t, "one circle", ring(n, 0), allAlike(n)...)
	}
	for n := 1; n < 8; n++ {
		for m := 1; m < 8; m++ {
			hold(t, "two circles", slices.Concat(ring(n, 0), ring(m, n)), allAlike(n+m)...)
		}
	}
	hold(t, "a way into a circle", []refine.Row{row(3, thing(1)), row(3, thing(2)), row(3, thing(3)), row(3, thing(2))}, 0, 0, 0, 0)
	hold(t, "colours by turns", []refine.Row{row(1, thing(1)), row(2, thing(2)), row(1, thing(3)), row(2, thing(0))}, 0, 1, 0, 1)
	hold(t, "colours by turns, in two circles", []refine.Row{row(1, thing(1)), row(2, thing(0)), row(2, thing(3)), row(1, thing(4)), row(2, thing(5)), row(1, thing(2))}, 0, 1, 1, 0, 1, 0)
}

// P12.1: of things in a circle of which one is told apart all are: those farthest from it in as many steps as there are things, less one.
func TestCircleWithOneUnlike(t *testing.T) {
	for n := 2; n <= 20; n++ {
		for _, at := range []int{0, n / 2, n - 1} {
			rows := ring(n, 0)
			rows[at].Color = 4
			hold(t, "by its colour", rows, allApart(n)...)
			rows = ring(n, 0)
			rows[at].To = append(rows[at].To, mark(1, 1))
			hold(t, "by one reference more", rows, allApart(n)...)
			rows = ring(n, 0)
			rows[at].To = refs(mark(1, rows[at].To[0].N))
			hold(t, "by a mark", rows, allApart(n)...)
			rows = ring(n, 0)
			rows[at].To = refs(thing(int64(n)))
			hold(t, "by one that is not there", rows, allApart(n)...)
		}
	}
}

// P12.1: a chain, told apart by its end alone, in as many steps as there are things, less one; from ahead and from behind.
func TestChain(t *testing.T) {
	for n := 1; n <= 24; n++ {
		for _, end := range [][]refine.Ref{nil, refs(mark(1, 1)), refs(thing(-1)), refs(thing(int64(n)))} {
			var on, back []refine.Row
			for i := range n {
				on = append(on, row(3, thing(int64(i+1))))
				back = append(back, row(3, thing(int64(i-1))))
			}
			on[n-1].To, back[0].To = end, end
			hold(t, "on", on, allApart(n)...)
			hold(t, "back", back, allApart(n)...)
		}
	}
}

// P12.1: two chains that end alike are alike, thing by thing; if they don't, all are apart.
func TestTwoChains(t *testing.T) {
	for n := 1; n <= 15; n++ {
		var rows []refine.Row
		for i := range 2 * n {
			rows = append(rows, row(3, thing(int64(i+1))))
		}
		rows[n-1].To, rows[2*n-1].To = refs(mark(1, 1)), refs(mark(1, 1))
		hold(t, "alike", rows, twice(allApart(n))...)
		rows[2*n-1].To = refs(mark(1, 2))
		hold(t, "unlike", rows, allApart(2*n)...)
		rows[n-1].To, rows[2*n-1].To = refs(thing(int64(n-1))), refs(thing(int64(2*n-1)))
		hold(t, "without an end", rows, allAlike(2*n)...)
	}
}

// P12.1: circles with one unlike thing each are alike as far as they are of one length.
func TestTwoCirclesWithOneUnlike(t *testing.T) {
	for n := 1; n < 8; n++ {
		for m := n; m < 8; m++ {
			rows := slices.Concat(ring(n, 0), ring(m, n))
			rows[0].Color, rows[n].Color = 4, 4
			want := allApart(n + m)
			if n == m {
				want = twice(allApart(n))
			}
			hold(t, "two circles", rows, want...)
		}
	}
	// One that goes round twice while the other one does once.
	rows := slices.Concat(ring(3, 0), ring(6, 3))
	rows[0].Color, rows[3].Color, rows[6].Color = 4, 4, 4
	hold(t, "of twice the length", rows, 0, 1, 2, 0, 1, 2, 0, 1, 2)
}

// P12.1: of many rows.
func TestManyInCircles(t *testing.T) {
	const n = 3000
	rows := ring(n, 0)
	want := make([]int, n)
	for i := range rows {
		rows[i].Color, want[i] = i%3, i%3
	}
	if c := refine.Classes(rows); !slices.Equal(c, want) {
		t.Fatalf("three colours by turns: %v", c)
	}
	if refine.Apart(rows, 0, n-3) || !refine.Apart(rows, 1, n-3) {
		t.Fatal("three colours by turns: Apart")
	}
	rows = ring(600, 0)
	if c := refine.Classes(rows); !slices.Equal(c, allAlike(600)) {
		t.Fatalf("all alike: %v", c)
	}
	rows[450].Color = 4
	if c := refine.Classes(rows); !slices.Equal(c, allApart(600)) {
		t.Fatalf("one unlike: %v", c)
	}
}

// P12.1: of many rows that are told apart by what is not far behind them.
func TestMany(t *testing.T) {
	const n = 70000
	rows := make([]refine.Row, n)
	for i := range rows {
		rows[i].Color = i
	}
	if c := refine.Classes(rows); !slices.Equal(c, allApart(n)) {
		t.Fatal("of as many colours")
	}
	for i := range rows {
		rows[i] = row(1, mark(1, int64(i%35000)), thing(int64((i+35000)%n)))
	}
	if c := refine.Classes(rows); !slices.Equal(c, twice(allApart(n/2))) {
		t.Fatal("each there twice")
	}
	for i := range rows {
		rows[i] = row(1, thing(int64((i-1)/2)), thing(int64((i-1)/2)))
	}
	rows[0] = row(2)
	// A tree: what is as far from the root is alike.
	want := make([]int, n)
	for i := 1; i < n; i++ {
		want[i] = want[(i-1)/2] + 1
	}
	if c := refine.Classes(rows); !slices.Equal(c, want) {
		t.Fatal("a tree")
	}
}

// P12.1: of rows with many references.
func TestManyRefs(t *testing.T) {
	const n = 100000
	to := list(n, thing(3))
	other := slices.Clone(to)
	other[n-1] = thing(4)
	rows := []refine.Row{row(1, to...), row(1, other...), row(1, to[:n-1]...), row(2), row(2)}
	if c := refine.Classes(rows); !slices.Equal(c, []int{0, 0, 1, 2, 2}) {
		t.Fatalf("alike: %v", c)
	}
	rows[4].Color = 3
	if c := refine.Classes(rows); !slices.Equal(c, []int{0, 1, 2, 3, 4}) {
		t.Fatalf("unlike: %v", c)
	}
}
