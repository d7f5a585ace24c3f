package norm_test

import (
	"slices"
	"testing"

	"joinery/api"
)

// order answers the numbers of values in the order in which they are met from a form's Args; false, if a source tells of a value that isn't there.
func order(x api.Form) ([]int64, bool) {
	var met []int64
	add := func(l []api.Src) bool {
		for _, s := range l {
			if s.Kind == 4 && (s.N < 0 || s.N >= int64(len(x.Vals))) {
				return false
			}
			if s.Kind == 4 && !slices.Contains(met, s.N) {
				met = append(met, s.N)
			}
		}
		return true
	}
	for _, node := range x.Nodes {
		if !add(node.Args) {
			return nil, false
		}
	}
	for i := 0; i < len(met); i++ {
		if !add(x.Vals[met[i]].From) {
			return nil, false
		}
	}
	return met, true
}

// waysTo answers from which nodes the ways to a node of a form come, in order; -1 is the beginning.
func waysTo(x api.Form, n int) []int {
	var l []int
	if x.Entry == n {
		l = append(l, -1)
	}
	for m, node := range x.Nodes {
		for _, out := range node.Outs {
			if out == n {
				l = append(l, m)
			}
		}
	}
	return l
}

// joins answers how many pairs of values of one node might be held to be one, all at once: of P13.2, none.
func joins(x api.Form) int {
	like := make([][]bool, len(x.Vals))
	count := 0
	for i, a := range x.Vals {
		like[i] = make([]bool, len(x.Vals))
		for k, b := range x.Vals {
			like[i][k] = a.At == b.At && len(a.From) == len(b.From)
			if i != k && like[i][k] {
				count++
			}
		}
	}
	for more := true; more; {
		more = false
		for i, a := range x.Vals {
			for k, b := range x.Vals {
				if i == k || !like[i][k] {
					continue
				}
				if !slices.EqualFunc(a.From, b.From, func(s, o api.Src) bool { return s == o || s.Kind == 4 && o.Kind == 4 && like[s.N][o.N] }) {
					like[i][k], more = false, true
					count--
				}
			}
		}
	}
	return count
}

// sound: is a form all that P13.2 says, and do its parts fit?
func sound(t *testing.T, f []api.Ins, x api.Form) {
	t.Helper()
	fail := func(why string) { t.Fatalf("%v: %s:\n%s", f, why, text(x)) }
	met, there := order(x)
	if !there {
		fail("a value isn't there")
	}
	if len(met) != len(x.Vals) {
		fail("a value isn't met")
	}
	if !slices.IsSorted(met) {
		fail("values aren't numbered as they are met")
	}
	if joins(x) != 0 {
		fail("two values of one node come from the same")
	}
	for n, node := range x.Nodes {
		for _, a := range node.Args {
			if a.Kind != 2 && (a.Kind != 4 || x.Vals[a.N].At != n) {
				fail("an Arg is neither a number nor a value of its node")
			}
		}
		for _, out := range node.Outs {
			if out < -1 || out >= len(x.Nodes) {
				fail("an Out leads to no node")
			}
		}
	}
	for _, v := range x.Vals {
		ways := waysTo(x, v.At)
		if len(v.From) != len(ways) {
			fail("a value comes by more ways, or fewer, than there are to its node")
		}
		for w, s := range v.From {
			if s.Kind == 4 && (ways[w] < 0 || x.Vals[s.N].At != ways[w]) {
				fail("a value comes from one that isn't of the node ahead")
			}
			if s.Kind == 1 && ways[w] >= 0 || s.Kind == 3 && ways[w] < 0 {
				fail("a value comes from the beginning by another way, or from a node by the beginning's")
			}
		}
	}
}

// P13.2: all values of a form are met from its Args; two of one node come from unlike things; no Arg is None.
func TestFormsAreSound(t *testing.T) {
	each(t, func(f []api.Ins) { sound(t, f, formOf(t, f)) })
	for places := 2; places <= 18; places++ {
		for odd := -1; odd < places; odd++ {
			f := turning(places, odd)
			sound(t, f, formOf(t, f))
		}
	}
}

// P13.4: a form has at most as many nodes as its function has instructions that do more than move.
func TestNodesAtMost(t *testing.T) {
	fewer, all := 0, 0
	each(t, func(f []api.Ins) {
		work := 0
		for _, x := range f {
			if !onlyMoves(x) {
				work++
			}
		}
		switch n := len(formOf(t, f).Nodes); {
		case n > work:
			t.Fatalf("%v: %d nodes of %d instructions that do more than move", f, n, work)
		case n < work:
			fewer++
		default:
			all++
		}
	})
	if fewer < 50 || all < 50 {
		t.Errorf("%d have fewer nodes, %d have as many", fewer, all)
	}
	for _, n := range []int{1, 2, 50, 200} {
		if x := formOf(t, straight(n)); len(x.Nodes) != n {
			t.Errorf("%d nodes of %d instructions", len(x.Nodes), n)
		}
	}
}
