package norm_test

import (
	"strconv"
	"strings"
	"testing"

	"joinery/api"
)

// P13.1: two places of one node that come from the same are one value.
func TestAlike(t *testing.T) {
	hasText(t, "call r1 r0 1, mov r2 r1, add r1 r1 r2, ret r1", "entry 0", "call 1 v0 > 1", "add v1 v1 > 2", "ret v2", "value 0 r0", "value 1 def", "value 2 def")
	hasText(t, "mov r1 r0, add r2 r1 r0, ret r2", "entry 0", "add v0 v0 > 1", "ret v1", "value 0 r0", "value 1 def")
	hasText(t, "mov s0 r5, mov r6 s0, store r6 r5, ret r5", "entry 0", "store v0 v0 > 1", "ret v1", "value 0 r5", "value 1 v0")
	hasText(t, "call r1 r0 1, zero r1 4, mov r2 s0, mov r3 s0, add r4 r2 r3, ret r4", "entry 0", "call 1 v0 > 1", "zero v1 > 2 > 2", "add v2 v3 > 3", "ret v4",
		"value 0 r0", "value 1 def", "value 2 v5 none", "value 2 v6 none", "value 3 def", "value 1 v7", "value 1 v8", "value 0 r2", "value 0 r3")
	// By several ways they must be the same by each.
	hasText(t, "zero r0 4, mov r1 r3, mov r2 r3, jump 6, const r1 7, const r2 7, add r4 r1 r2, ret r4", "entry 0", "zero v0 > 1 > 1", "add v1 v1 > 2", "ret v2",
		"value 0 r0", "value 1 #7 v3", "value 2 def", "value 0 r3")
	hasText(t, "zero r0 4, mov r1 r3, mov r2 r3, jump 6, const r1 7, const r2 8, add r4 r1 r2, ret r4", "entry 0", "zero v0 > 1 > 1", "add v1 v2 > 2", "ret v3",
		"value 0 r0", "value 1 #7 v4", "value 1 #8 v4", "value 2 def", "value 0 r3")
	hasText(t, "zero r0 4, mov r1 r3, mov r2 r5, jump 6, const r1 7, const r2 7, add r4 r1 r2, ret r4", "entry 0", "zero v0 > 1 > 1", "add v1 v2 > 2", "ret v3",
		"value 0 r0", "value 1 #7 v4", "value 1 #7 v5", "value 2 def", "value 0 r3", "value 0 r5")
}

// P13.1: values of two nodes are two, whatever they come from.
func TestAlikeOfTwoNodes(t *testing.T) {
	hasText(t, "zero r0 3, load r1 r2, jump 4, load r1 r2, ret r1", "entry 0", "zero v0 > 1 > 2", "load v1 > 3", "load v2 > 3", "ret v3",
		"value 0 r0", "value 1 v4", "value 2 v4", "value 3 def def", "value 0 r2")
	hasText(t, "zero r0 2, jump 4, const r1 5, load r1 r3, const r1 6, load r3 r2, ret r3", "entry 0", "zero v0 > 1 > 2", "load v1 > 2", "load v2 > 3", "ret v3",
		"value 0 r0", "value 1 v4", "value 2 v5 v6", "value 3 def", "value 0 r3", "value 0 r2", "value 1 v5")
}

// carried is a text's lines in which so many calls stand behind a beginning, and then an add of r1 and r2 and its ret.
func carried(beginning string, calls int) string {
	return beginning + strings.Repeat("call r6 r5 0, ", calls) + "add r3 r1 r2, ret r3"
}

// P13.1: values that are alike only because what they come from is, and unlike only by what is far behind.
func TestAlikeFarBehind(t *testing.T) {
	args := func(f string, at int) string { return lines(formOf(t, parsed(t, split(f))))[1+at] }
	for _, calls := range []int{0, 1, 2, 3, 4, 5, 6, 7, 8, 9, 10, 23, 24, 25, 60, 120, 196} {
		one := "add v" + strconv.Itoa(calls) + " v" + strconv.Itoa(calls) + " > " + strconv.Itoa(calls+1)
		two := "add v" + strconv.Itoa(calls) + " v" + strconv.Itoa(calls+1) + " > " + strconv.Itoa(calls+1)
		if s := args(carried("mov r1 r0, mov r2 r0, ", calls), calls); s != one {
			t.Errorf("one register, %d calls behind: %s", calls, s)
		}
		if s := args(carried("mov r1 r0, ", calls), calls); s != two {
			t.Errorf("two registers, %d calls behind: %s", calls, s)
		}
	}
	hasText(t, "mov r1 r0, mov r2 r0, call r6 r5 0, add r3 r1 r2, ret r3", "entry 0", "call 0 v0 > 1", "add v1 v1 > 2", "ret v2", "value 0 r5", "value 1 v3", "value 2 def", "value 0 r0")
}

// P13.1: values that are alike in a circle, where each comes from the other, or from itself, and what is unlike there.
func TestAlikeInCircles(t *testing.T) {
	hasText(t, "mov r1 r0, mov r2 r0, add r3 r1 r2, jump 2", "entry 0", "add v0 v0 > 0", "value 0 r0 v0")
	hasText(t, "mov r1 r0, mov r2 r0, add r3 r1 r2, swap r1 r2, jump 2", "entry 0", "add v0 v0 > 0", "value 0 r0 v0")
	hasText(t, "add r3 r1 r2, swap r1 r2, jump 0", "entry 0", "add v0 v1 > 0", "value 0 r1 v1", "value 0 r2 v0")
	hasText(t, "mov r1 r0, mov r2 r0, add r1 r1 r2, mov r2 r1, jump 2", "entry 0", "add v0 v0 > 0", "value 0 r0 def")
	hasText(t, "mov r1 r0, mov r2 r0, add r1 r1 r2, jump 2", "entry 0", "add v0 v1 > 0", "value 0 r0 def", "value 0 r0 v1")
	// Of two nodes: each one's two come from the other's two.
	hasText(t, "mov r1 r0, mov r2 r0, store r1 r2, swap r1 r2, load r7 r1, jump 2", "entry 0", "store v0 v0 > 1", "load v1 > 0", "value 0 r0 v1", "value 1 v0")
	hasText(t, "mov r2 r0, store r1 r2, swap r1 r2, load r7 r1, jump 1", "entry 0", "store v0 v1 > 1", "load v2 > 0", "value 0 r1 v2", "value 0 r0 v3", "value 1 v1", "value 1 v0")
	// A circle that is left, and entered again with other numbers, which are the same in both places, or not.
	hasText(t, "zero r0 4, mov r1 r4, mov r2 r4, jump 6, mov r1 r5, mov r2 r5, store r1 r2, swap r1 r2, jump 0",
		"entry 0", "zero v0 > 1 > 1", "store v1 v1 > 0", "value 0 r0 v2", "value 1 v3 v4", "value 1 v0 v0", "value 0 r5 v5", "value 0 r4 v6", "value 1 v3 v3", "value 1 v4 v4")
	hasText(t, "zero r0 3, mov r1 r4, mov r2 r4, store r1 r2, swap r1 r2, jump 0",
		"entry 0", "zero v0 > 1 > 1", "store v1 v2 > 0", "value 0 r0 v3", "value 1 v4 v5", "value 1 v6 v5", "value 1 v0 v0", "value 0 r1 v2", "value 0 r4 v7", "value 0 r2 v1", "value 1 v5 v5")
}

// turning answers a function in which what so many places have goes from one to the next, in a circle: r1 and r2 are the first two, slots the others. All have what r0 had at first, but one.
func turning(places, odd int) []api.Ins {
	l := func(i int) int {
		if i < 2 {
			return 1 + i
		}
		return 6 + i
	}
	var f []api.Ins
	for i := range places {
		a := 0
		if i == odd {
			a = 7
		}
		f = append(f, api.Ins{Op: api.Mov, D: l(i), A: a})
	}
	f = append(f, api.Ins{Op: api.Store, A: 1, B: 2})
	for i := range places - 1 {
		f = append(f, api.Ins{Op: api.Swap, D: l(i), A: l(i + 1)})
	}
	return append(f, api.Ins{Op: api.Jump, To: places})
}

// P13.1: of places in a circle all are alike, or none is, since one began otherwise, however far off that one is.
func TestAlikeTurning(t *testing.T) {
	for places := 2; places <= 18; places++ {
		has(t, turning(places, -1), "entry 0", "store v0 v0 > 0", "value 0 r0 v0")
		for odd := range places {
			x := formOf(t, turning(places, odd))
			if len(x.Vals) != places || x.Nodes[0].Args[0] == x.Nodes[0].Args[1] {
				t.Errorf("%d places, and %d is odd:\n%s", places, odd, text(x))
			}
		}
	}
}

// P13.1: two values that come from one and the same by one way, and by another from all pairs of what they may come from: they are alike just if that is the same.
func TestAlikeBySource(t *testing.T) {
	var moves []string
	for _, from := range []string{"r7", "r6", "r5", "r0", "s0", "s9"} {
		moves = append(moves, "mov D "+from)
	}
	for _, n := range []string{"0", "1", "3", "5", "6", "7", "30", "31", "53", "-1"} {
		moves = append(moves, "const D "+n)
	}
	for i, a := range moves {
		for k, b := range moves {
			f := parsed(t, split("zero r0 4, const r1 9, const r2 9, jump 7, call r7 r6 1, "+strings.ReplaceAll(a, "D", "r1")+", "+strings.ReplaceAll(b, "D", "r2")+", add r3 r1 r2, ret r3"))
			x := formOf(t, f)
			// Both slots have nothing.
			alike := i == k || i >= 4 && i <= 5 && k >= 4 && k <= 5
			if (x.Nodes[2].Args[0] == x.Nodes[2].Args[1]) != alike {
				t.Errorf("%s and %s:\n%s", a, b, text(x))
			}
		}
	}
	// And from the beginning: registers, numbers, nothing.
	for i, a := range moves {
		for k, b := range moves {
			f := parsed(t, split(strings.ReplaceAll(a, "D", "r1")+", "+strings.ReplaceAll(b, "D", "r2")+", add r3 r1 r2, mov r1 r3, mov r2 r3, jump 2"))
			x := formOf(t, f)
			alike := i == k || i >= 4 && i <= 5 && k >= 4 && k <= 5
			if len(x.Nodes[0].Args) == 2 && (x.Nodes[0].Args[0] == x.Nodes[0].Args[1]) != alike {
				t.Errorf("at the beginning %s and %s:\n%s", a, b, text(x))
			}
		}
	}
}

// P13.1: what comes from nothing isn't what comes from a value, whichever that is.
func TestNothingIsNoValue(t *testing.T) {
	hasText(t, "zero r0 4, mov r1 s0, mov r2 r0, jump 6, const r1 5, const r2 5, add r3 r1 r2, ret r3", "entry 0", "zero v0 > 1 > 1", "add v1 v2 > 2", "ret v3",
		"value 0 r0", "value 1 #5 none", "value 1 #5 v0", "value 2 def")
}

// P13.1: values are numbered as they are met: in the Args of all nodes, in order, and then in what values come from, value by value, way by way.
func TestNumbers(t *testing.T) {
	hasText(t, "call r1 r0 1, add r2 r1 r3, ret r2", "entry 0", "call 1 v0 > 1", "add v1 v2 > 2", "ret v3", "value 0 r0", "value 1 def", "value 1 v4", "value 2 def", "value 0 r3")
	hasText(t, "call r7 r6 1, call r7 r6 2, add r3 r1 r2, ret r3", "entry 0", "call 1 v0 > 1", "call 2 v1 > 2", "add v2 v3 > 3", "ret v4",
		"value 0 r6", "value 1 v0", "value 2 v5", "value 2 v6", "value 3 def", "value 1 v7", "value 1 v8", "value 0 r1", "value 0 r2")
	// By B's place ahead of A's, and by a higher register ahead of a lower one.
	hasText(t, "store r7 r0, store r0 r7, jump 0", "entry 0", "store v0 v1 > 1", "store v2 v3 > 0", "value 0 r7 v3", "value 0 r0 v2", "value 1 v1", "value 1 v0")
	// By two ways at once, each with one that is new.
	hasText(t, "zero r0 2, mov r1 s4, ret r1", "entry 0", "zero v0 > 1 > 1", "ret v1", "value 0 r0", "value 1 v2 none", "value 0 r1")
	hasText(t, "zero r0 3, zero r7 3, mov r1 r2, ret r1", "entry 0", "zero v0 > 1 > 2", "ret v1", "zero v2 > 1 > 1",
		"value 0 r0", "value 1 v3 v4 v5", "value 2 v6", "value 0 r1", "value 2 v3", "value 2 v7", "value 0 r7", "value 0 r2")
	// Nodes in their own order, not in that of places.
	hasText(t, "jump 4, ret r1, store r2 r3, jump 1, store r4 r5, jump 2", "entry 0", "store v0 v1 > 1", "store v2 v3 > 2", "ret v4",
		"value 0 r4", "value 0 r5", "value 1 v5", "value 1 v6", "value 2 v7", "value 0 r2", "value 0 r3", "value 1 v8", "value 0 r1")
}

// P13.1: what is never met has no number: values of places that nobody needs, or just a node that is cut.
func TestNeverMet(t *testing.T) {
	hasText(t, "const r1 5, call r2 r0 1, call r3 r0 2, mov r4 r3, ret r2", "entry 0", "call 1 v0 > 1", "call 2 v1 > 2", "ret v2", "value 0 r0", "value 1 v0", "value 2 v3", "value 1 def")
	hasText(t, "mov r5 s0, call r1 r0 1, call r2 r0 2, add r3 r2 r5, ret r1", "entry 0", "call 1 v0 > 1", "call 2 v1 > 2", "cut", "value 0 r0", "value 1 v0")
	hasText(t, "zero r0 3, const r4 1, const r5 1, const r0 3, ret r0", "entry 0", "zero v0 > 1 > 1", "ret #3", "value 0 r0")
}
