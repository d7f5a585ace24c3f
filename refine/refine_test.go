package refine_test

import (
	"math"
	"slices"
	"testing"

	"joinery/refine"
)

// The kind of references to things, by the document's number.
func thing(n int64) refine.Ref { return refine.Ref{Kind: 0, N: n} }

func mark(kind int, n int64) refine.Ref { return refine.Ref{Kind: kind, N: n} }

func row(color int, to ...refine.Ref) refine.Row { return refine.Row{Color: color, To: to} }

// refs answers a list of references.
func refs(to ...refine.Ref) []refine.Ref { return to }

// list answers one of what is handed over, so many times.
func list(n int, x refine.Ref) []refine.Ref { return slices.Repeat([]refine.Ref{x}, n) }

// leading answers rows of one colour that lead to those.
func leading(to ...[]refine.Ref) []refine.Row {
	var rows []refine.Row
	for _, x := range to {
		rows = append(rows, row(5, x...))
	}
	return rows
}

// hold: Classes answers those classes, and Apart says the same of pairs in both orders, also of some that are not there: of all pairs, where there are few things.
func hold(t *testing.T, what string, rows []refine.Row, want ...int) {
	t.Helper()
	if c := refine.Classes(rows); !slices.Equal(c, want) {
		t.Fatalf("%s: %v: %v; it ought to be %v", what, rows, c, want)
	}
	n := len(rows)
	step := 1 + n/12
	for i := -1; i <= n; i += step {
		for k := -1; k <= n; k++ {
			if step > 1 && k%step != i%step && k < n-1 {
				continue
			}
			apart := i != k
			if min(i, k) >= 0 && max(i, k) < n {
				apart = want[i] != want[k]
			}
			if refine.Apart(rows, i, k) != apart || refine.Apart(rows, k, i) != apart {
				t.Fatalf("%s: %v: Apart of %d and %d isn't %t in both orders", what, rows, i, k, apart)
			}
		}
	}
}

// allAlike answers as many classes as there are things, all the same.
func allAlike(n int) []int { return make([]int, n) }

// allApart answers as many classes as there are things, each its own.
func allApart(n int) []int {
	l := make([]int, n)
	for i := range l {
		l[i] = i
	}
	return l
}

// twice answers the classes of things that stand there once, and then once more.
func twice(classes []int) []int { return slices.Concat(classes, classes) }

// farInts are numbers near 0, and at the ends of what 8, 16, 32 and 64 bits hold.
func farInts() []int {
	return []int{
		0, 1, -1, 2, -2, 127, 128, 255, 256, -128, -129, 32767, 32768, 65535, 65536, -32768, -32769,
		math.MaxInt32, math.MaxInt32 + 1, math.MaxUint32, math.MaxUint32 + 1, math.MaxUint32 + 2, math.MinInt32, math.MinInt32 - 1, -math.MaxUint32, -math.MaxUint32 - 1,
		1 << 53, 1<<53 + 1, math.MaxInt - 1, math.MaxInt, math.MinInt, math.MinInt + 1,
	}
}

// The chapter's examples.
func TestExamples(t *testing.T) {
	hold(t, "a circle", []refine.Row{row(1, thing(1)), row(1, thing(0)), row(2)}, 0, 0, 1)
	hold(t, "no circle", []refine.Row{row(1, thing(2)), row(1, thing(0)), row(2)}, 0, 1, 2)
}

func TestThing(t *testing.T) {
	if refine.Thing != 0 {
		t.Errorf("%d", refine.Thing)
	}
}

// P12.1: of no things there are no classes.
func TestNone(t *testing.T) {
	hold(t, "nil", nil)
	hold(t, "empty", []refine.Row{})
	hold(t, "spare room", []refine.Row{row(1), row(2)}[:0])
}

// P12.1: one thing has class 0, whatever it is.
func TestOne(t *testing.T) {
	for _, n := range farInts() {
		for _, to := range [][]refine.Ref{nil, {}, refs(thing(int64(n))), refs(mark(n, 0)), refs(mark(1, int64(n)), thing(0)), list(40, thing(0))} {
			hold(t, "one", []refine.Row{row(n, to...)}, 0)
		}
	}
}

// P12.1: what leads to nothing is told apart by its colour alone.
func TestColors(t *testing.T) {
	hold(t, "one colour", []refine.Row{row(7), row(7), row(7), row(7)}, 0, 0, 0, 0)
	hold(t, "no colour", []refine.Row{{}, {}, {To: refs()}}, 0, 0, 0)
	hold(t, "two", []refine.Row{row(1), row(2)}, 0, 1)
	hold(t, "several", []refine.Row{row(3), row(1), row(3), row(2), row(1)}, 0, 1, 0, 2, 1)
	hold(t, "several below 0", []refine.Row{row(-3), row(3), row(-3), row(0), row(3)}, 0, 1, 0, 2, 1)
	hold(t, "numbers of things", []refine.Row{row(2), row(1), row(0), row(2), row(1)}, 0, 1, 2, 0, 1)
	hold(t, "the ends", []refine.Row{row(math.MaxInt), row(math.MinInt), row(math.MaxInt), row(math.MinInt)}, 0, 1, 0, 1)
}

// P12.1: colours are any numbers: those of which only some bits are unlike are unlike.
func TestColorsOfAllSizes(t *testing.T) {
	var rows []refine.Row
	for _, n := range farInts() {
		rows = append(rows, row(n))
	}
	hold(t, "all sizes", slices.Concat(rows, rows), twice(allApart(len(rows)))...)
	for i := range rows {
		rows[i].To = refs(mark(3, 4), thing(int64(i)))
	}
	hold(t, "and leading to themselves", rows, allApart(len(rows))...)
}

// P12.1: what is alike but for its colour can be told apart.
func TestColorsOfWhatLeads(t *testing.T) {
	hold(t, "to the same thing", []refine.Row{row(1, thing(2)), row(2, thing(2)), row(3)}, 0, 1, 2)
	hold(t, "to the same mark", []refine.Row{row(1, mark(1, 1)), row(2, mark(1, 1))}, 0, 1)
	hold(t, "to one another", []refine.Row{row(1, thing(1)), row(2, thing(0))}, 0, 1)
	hold(t, "to themselves", []refine.Row{row(1, thing(0)), row(2, thing(1))}, 0, 1)
}

// P12.1: unlike many references tell apart, though those at one place of both are the same.
func TestUnlikeMany(t *testing.T) {
	m, self := mark(1, 1), thing(0)
	hold(t, "marks", leading(nil, refs(m), refs(m, m), refs(m), refs(), list(3, m)), 0, 1, 2, 1, 0, 3)
	hold(t, "things", leading(nil, refs(self), refs(self, self), refs(self), nil), 0, 1, 2, 1, 0)
	hold(t, "not there", leading(nil, refs(thing(9)), list(2, thing(9)), refs(thing(9))), 0, 1, 2, 1)
	hold(t, "one more behind", leading(refs(mark(1, 1), mark(1, 2)), refs(mark(1, 1))), 0, 1)
	hold(t, "one more ahead", leading(refs(mark(1, 2), mark(1, 1)), refs(mark(1, 1))), 0, 1)
	for _, x := range []refine.Ref{m, self, thing(20), thing(-1)} {
		var rows []refine.Row
		for n := range 20 {
			rows = append(rows, row(5, list(n, x)...))
		}
		hold(t, "each length, once more", slices.Concat(rows, rows), twice(allApart(20))...)
	}
}

// P12.1: a thing without references and one with some are not the same, however many others there are.
func TestNothingAndSome(t *testing.T) {
	for n := range 12 {
		var rows []refine.Row
		var want []int
		for i := range n {
			rows = append(rows, row(i), row(i, mark(1, int64(i))), row(i, thing(int64(i))))
			want = append(want, 3*i, 3*i+1, 3*i+2)
		}
		hold(t, "nothing, a mark, a thing", rows, want...)
	}
}

// P12.1: the order of references counts.
func TestOrderOfRefs(t *testing.T) {
	a, b := mark(1, 1), mark(2, 2)
	hold(t, "two marks", leading(refs(a, b), refs(b, a), refs(a, b)), 0, 1, 0)
	hold(t, "three marks", leading(refs(a, a, b), refs(a, b, a), refs(b, a, a), refs(a, b, a)), 0, 1, 2, 1)
	hold(t, "two things", []refine.Row{row(1, thing(2), thing(3)), row(1, thing(3), thing(2)), row(2), row(3)}, 0, 1, 2, 3)
	hold(t, "a thing and a mark", leading(refs(thing(0), a), refs(a, thing(0))), 0, 1)
	hold(t, "how many of each", leading(refs(a, a, b), refs(a, b, b)), 0, 1)
}

// P12.1: a thing that is there twice is the same as itself, whether it is a row or a reference.
func TestTwice(t *testing.T) {
	one := row(4, thing(2), mark(1, 7), thing(2))
	hold(t, "a row", []refine.Row{one, one, row(5)}, 0, 0, 1)
	hold(t, "a row far behind", []refine.Row{one, row(6), row(5), one, row(5)}, 0, 1, 2, 0, 2)
	hold(t, "a thing that two are alike with", []refine.Row{row(1, thing(2), thing(2)), row(1, thing(2), thing(3)), row(2), row(2)}, 0, 0, 1, 1)
	hold(t, "a thing that two are not alike with", []refine.Row{row(1, thing(2), thing(2)), row(1, thing(2), thing(3)), row(2), row(3)}, 0, 1, 2, 3)
	hold(t, "once and twice", []refine.Row{row(1, thing(2)), row(1, thing(2), thing(2)), row(2)}, 0, 1, 2)
	hold(t, "all lead to one", []refine.Row{row(1, thing(3)), row(1, thing(3)), row(1, thing(3)), row(2)}, 0, 0, 0, 1)
}

// P12.1: things are told apart by each of many references, the first, one in between, the last.
func TestOneOfManyRefs(t *testing.T) {
	for _, n := range []int{1, 2, 3, 7, 8, 9, 100, 1000} {
		for _, at := range []int{0, n / 2, n - 1} {
			for _, x := range []refine.Ref{mark(1, 2), mark(2, 1), thing(2), thing(-1), thing(4)} {
				other := list(n, mark(1, 1))
				other[at] = x
				hold(t, "a mark", leading(list(n, mark(1, 1)), other, list(n, mark(1, 1))), 0, 1, 0)
			}
			to := list(n, thing(2))
			to[at] = thing(3)
			hold(t, "alike", []refine.Row{row(1, list(n, thing(2))...), row(1, to...), row(2), row(2)}, 0, 0, 1, 1)
			hold(t, "unlike", []refine.Row{row(1, list(n, thing(2))...), row(1, to...), row(2), row(3)}, 0, 1, 2, 3)
		}
	}
}

// P12.1: classes are numbered from 0 on as their first things stand.
func TestNumbersOfClasses(t *testing.T) {
	hold(t, "falling colours", []refine.Row{row(9), row(8), row(7), row(8), row(6), row(9)}, 0, 1, 2, 1, 3, 0)
	hold(t, "one class becomes two", []refine.Row{row(1, mark(1, 2)), row(2), row(1, mark(1, 1)), row(3), row(1, mark(1, 2))}, 0, 1, 2, 3, 0)
	hold(t, "the first is the one that is told apart", []refine.Row{row(1, thing(3)), row(1, thing(4)), row(1, thing(4)), row(3), row(2)}, 0, 1, 1, 2, 3)
	hold(t, "those that are led to stand ahead", []refine.Row{row(2), row(1), row(0, thing(1)), row(0, thing(0)), row(0, thing(1))}, 0, 1, 2, 3, 2)
	hold(t, "told apart from behind", []refine.Row{row(1, thing(1)), row(1, thing(2)), row(1, thing(3)), row(1, thing(4)), row(1)}, 0, 1, 2, 3, 4)
	hold(t, "told apart from ahead", []refine.Row{row(1), row(1, thing(0)), row(1, thing(1)), row(1, thing(2)), row(1, thing(3))}, 0, 1, 2, 3, 4)
}
