package refine_test

import (
	"slices"
	"testing"

	"joinery/refine"
)

// isThing: is a reference one to a thing that is there?
func isThing(r refine.Ref, rows []refine.Row) bool {
	return r.Kind == 0 && r.N >= 0 && r.N < int64(len(rows))
}

// workedStep: can two things be told apart, if those can of which it is known already?
func workedStep(rows []refine.Row, known [][]bool, i, k int) bool {
	a, b := rows[i], rows[k]
	if known[i][k] || a.Color != b.Color || len(a.To) != len(b.To) {
		return true
	}
	for at, r := range a.To {
		s := b.To[at]
		one, other := isThing(r, rows), isThing(s, rows)
		switch {
		case one && other:
			if known[r.N][s.N] {
				return true
			}
		case one || other || r != s:
			return true
		}
	}
	return false
}

// workedApart answers of all pairs whether they can be told apart, as the chapter's Words say: pair by pair, in as many steps as there are things.
func workedApart(rows []refine.Row) [][]bool {
	known := make([][]bool, len(rows))
	for i := range known {
		known[i] = make([]bool, len(rows))
	}
	for range rows {
		next := make([][]bool, len(rows))
		for i := range rows {
			next[i] = make([]bool, len(rows))
			for k := range rows {
				next[i][k] = workedStep(rows, known, i, k)
			}
		}
		known = next
	}
	return known
}

// workedClasses answers the classes: each thing has that of the first one from which it can't be told apart.
func workedClasses(apart [][]bool) []int {
	var classes []int
	count := 0
	for i := range apart {
		first := slices.Index(apart[i], false)
		if first < i {
			classes = append(classes, classes[first])
			continue
		}
		classes = append(classes, count)
		count++
	}
	return classes
}

// holdWords: Classes and Apart answer what the chapter's Words say.
func holdWords(t *testing.T, rows []refine.Row) []int {
	t.Helper()
	apart := workedApart(rows)
	classes := refine.Classes(rows)
	if want := workedClasses(apart); !slices.Equal(classes, want) {
		t.Fatalf("%v: %v; it ought to be %v", rows, classes, want)
	}
	if len(rows) > 12 {
		return classes
	}
	for i := range rows {
		for k := range rows {
			if refine.Apart(rows, i, k) != apart[i][k] {
				t.Fatalf("%v: Apart of %d and %d: %t", rows, i, k, !apart[i][k])
			}
		}
	}
	return classes
}

// sameRefs: do two things lead to the same classes and marks?
func sameRefs(rows []refine.Row, classes []int, i, k int) bool {
	return slices.EqualFunc(rows[i].To, rows[k].To, func(a, b refine.Ref) bool {
		if isThing(a, rows) && isThing(b, rows) {
			return classes[a.N] == classes[b.N]
		}
		return a == b
	})
}

// fits: has what is of one class one colour, and leads to the same classes and marks?
func fits(rows []refine.Row, classes []int) bool {
	for i := range rows {
		for k := range i {
			if classes[i] == classes[k] && (rows[i].Color != rows[k].Color || !sameRefs(rows, classes, i, k)) {
				return false
			}
		}
	}
	return true
}

// within: are things that are of one class of the first always of one class of the second?
func within(first, second []int) bool {
	for i := range first {
		for k := range i {
			if first[i] == first[k] && second[i] != second[k] {
				return false
			}
		}
	}
	return true
}

// divisions hands over all ways to put so many things into classes.
func divisions(n int, hand func(classes []int)) {
	classes := make([]int, 0, n)
	var lay func(count int)
	lay = func(count int) {
		if len(classes) == n {
			hand(classes)
			return
		}
		for c := range count + 1 {
			classes = append(classes, c)
			lay(max(count, c+1))
			classes = classes[:len(classes)-1]
		}
	}
	lay(0)
}

// holdFewest: classes fit, and of all that do they are the fewest: whatever is of one class in another way is so here.
func holdFewest(t *testing.T, rows []refine.Row, classes []int) {
	t.Helper()
	if !fits(rows, classes) {
		t.Fatalf("%v: %v: unlike things of one class", rows, classes)
	}
	divisions(len(rows), func(other []int) {
		if fits(rows, other) && !within(other, classes) {
			t.Fatalf("%v: %v: and %v does, too", rows, classes, other)
		}
	})
}

// drawer answers a way to draw numbers from 0 on below a bound: always the same ones of one seed.
func drawer(seed uint64) func(below int) int {
	return func(below int) int {
		seed = seed*6364136223846793005 + 1442695040888963407
		return int(seed>>33) % below
	}
}

// randomly answers so many rows, a number's: few colours and few marks, so that many are alike.
func randomly(n int, seed uint64) []refine.Row {
	draw := drawer(seed)
	colors, refs, odd := 1+draw(3), 1+draw(3), 2+draw(20)
	var rows []refine.Row
	for range n {
		x := row(draw(colors) - 1)
		for range refs {
			switch {
			case draw(odd) > 0:
				x.To = append(x.To, thing(int64(draw(n))))
			case draw(3) > 0:
				x.To = append(x.To, mark(draw(3)-1, int64(draw(3))))
			case draw(2) > 0:
				x.To = append(x.To, thing(int64(draw(3)-1+draw(2)*n)))
			}
		}
		rows = append(rows, x)
	}
	return rows
}

// alike answers rows of which many can't be told apart: each is a copy of one of a few, and leads to copies of what that one leads to.
func alike(n, copies int, seed uint64) []refine.Row {
	few, draw := randomly(n, seed), drawer(seed+1)
	var rows []refine.Row
	for range copies {
		for _, x := range few {
			y := row(x.Color)
			for _, r := range x.To {
				if isThing(r, few) {
					r.N += int64(n * draw(copies))
				} else if r.Kind == refine.Thing && r.N > 0 {
					r.N += int64(n * copies)
				}
				y.To = append(y.To, r)
			}
			rows = append(rows, y)
		}
	}
	return rows
}

// P12.1, P12.2: all rows of at most three things, of two colours and at most two references.
func TestAllOfFewThings(t *testing.T) {
	choices := [][]refine.Ref{nil}
	kinds := refs(thing(0), thing(1), thing(2), mark(1, 1))
	for _, a := range kinds {
		choices = append(choices, refs(a))
		for _, b := range kinds {
			choices = append(choices, refs(a, b))
		}
	}
	var all []refine.Row
	for color := range 2 {
		for _, to := range choices {
			all = append(all, row(color, to...))
		}
	}
	for _, a := range all {
		holdFewest(t, []refine.Row{a}, holdWords(t, []refine.Row{a}))
		for _, b := range all {
			holdFewest(t, []refine.Row{a, b}, holdWords(t, []refine.Row{a, b}))
		}
	}
	for _, a := range all[:len(choices)] {
		for _, b := range all {
			for _, c := range all[:len(choices)] {
				rows := []refine.Row{a, b, c}
				holdFewest(t, rows, holdWords(t, rows))
			}
		}
	}
}

// P12.1, P12.2: rows of some things, of all kinds.
func TestAgainstWords(t *testing.T) {
	for seed := range uint64(3000) {
		rows := randomly(int(seed)%8, seed)
		holdFewest(t, rows, holdWords(t, rows))
	}
	for seed := range uint64(1000) {
		n := 1 + int(seed)%3
		rows := alike(n, 6/n, seed)
		holdFewest(t, rows, holdWords(t, rows))
	}
	for seed := range uint64(400) {
		rows := randomly(int(seed)%50, seed)
		if c := holdWords(t, rows); !fits(rows, c) {
			t.Fatalf("%v: %v: unlike things of one class", rows, c)
		}
	}
}

// P12.2: copies that lead to copies are of the classes of what they are copies of.
func TestCopiesAreAlike(t *testing.T) {
	most := 0
	for seed := range uint64(300) {
		n, copies := 1+int(seed)%12, 2+int(seed)%4
		rows := alike(n, copies, seed)
		c := holdWords(t, rows)
		for i, x := range c {
			if x != c[i%n] {
				t.Fatalf("%v: %v: %d is a copy of %d", rows, c, i, i%n)
			}
		}
		most = max(most, slices.Max(c)+1)
	}
	if most < 8 {
		t.Fatalf("of no more than %d classes", most)
	}
}
