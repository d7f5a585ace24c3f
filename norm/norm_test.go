package norm_test

import (
	"strconv"
	"testing"

	"joinery/api"
	"joinery/asm"
	"joinery/norm"
)

// P13.1: the chapter's example.
func TestExample(t *testing.T) {
	hasText(t, "mov s0 r0, call r1 r0 7, mov r2 s0, ret r2",
		"entry 0", "call 7 v0 > 1", "ret v1", "value 0 r0", "value 1 v0")
}

// P13.1, R2: a function that isn't right: ErrArg, and the zero form.
func TestWrongFunctions(t *testing.T) {
	met := map[api.Errno]bool{}
	for what, f := range wrongFunctions() {
		_, why := asm.Check(f)
		met[why] = true
		if x, e := norm.Of(f); e != 1 || !empty(x) {
			t.Errorf("%s: %d, and\n%s", what, e, text(x))
		}
	}
	for _, e := range []api.Errno{api.ErrArg, api.ErrFull, api.ErrTo, api.ErrEnd, api.ErrUse} {
		if !met[e] {
			t.Errorf("no function is wrong by %d", e)
		}
	}
	if met[api.OK] {
		t.Error("a function is right")
	}
}

// P13.1: functions that only move and lead nowhere.
func TestNowhere(t *testing.T) {
	for _, f := range []string{
		"jump 0",
		"jump 1, jump 0",
		"const r1 5, jump 0",
		"mov r1 s0, swap r1 s3, jump 1",
		"jump 2, ret r1, jump 2",
		"mov r1 r2, jump 4, ret r1, add r1 r2 r3, jump 0",
	} {
		hasText(t, f, "entry -")
	}
}

// P13.1: the Entry leads to a node, at once or by a path.
func TestEntry(t *testing.T) {
	for _, f := range []string{
		"ret r3",
		"mov r1 r3, ret r1",
		"jump 1, ret r3",
		"mov s7 r3, jump 3, ret r2, const r3 4, mov r2 s7, jump 2",
		"swap r3 s15, swap s15 r7, ret r7",
		"jump 2, ret r1, jump 4, ret r2, ret r3",
	} {
		hasText(t, f, "entry 0", "ret v0", "value 0 r3")
	}
	hasText(t, "const r1 5, jump 3, ret r2, swap r2 r1, jump 2", "entry 0", "ret #5")
}

// P13.1: Add to Same: what A and B have, in that order; one way out; what comes of it is a value of the node behind.
func TestArithmetic(t *testing.T) {
	for op, word := range words() {
		if op < 4 || op > 12 {
			continue
		}
		ret := api.Ins{Op: api.Ret, A: 1}
		for a := range 8 {
			for b := range 8 {
				f := []api.Ins{{Op: op, D: 1, A: a, B: b}, ret}
				if a == b {
					has(t, f, "entry 0", word+" v0 v0 > 1", "ret v1", "value 0 r"+strconv.Itoa(a), "value 1 def")
					continue
				}
				has(t, f, "entry 0", word+" v0 v1 > 1", "ret v2", "value 0 r"+strconv.Itoa(a), "value 0 r"+strconv.Itoa(b), "value 1 def")
			}
		}
		hasText(t, "const r2 5, const r3 -7, "+word+" r1 r3 r2, ret r1", "entry 0", word+" #-7 #5 > 1", "ret v0", "value 1 def")
		hasText(t, "const r2 5, "+word+" r1 r3 r2, jump 1", "entry 0", word+" v0 #5 > 0", "value 0 r3 v0")
		hasText(t, "const r2 5, "+word+" r1 r2 r3, jump 3, jump 2", "entry 0", word+" #5 v0 > -", "value 0 r3")
	}
}

// P13.1: Load, Store, Call and Ret: their Args and Outs.
func TestOthers(t *testing.T) {
	hasText(t, "load r1 r2, ret r1", "entry 0", "load v0 > 1", "ret v1", "value 0 r2", "value 1 def")
	hasText(t, "load r2 r2, jump 0", "entry 0", "load v0 > 0", "value 0 r2 def")
	hasText(t, "store r1 r2, ret r1", "entry 0", "store v0 v1 > 1", "ret v2", "value 0 r1", "value 0 r2", "value 1 v0")
	hasText(t, "store r2 r1, ret r1", "entry 0", "store v0 v1 > 1", "ret v2", "value 0 r2", "value 0 r1", "value 1 v1")
	hasText(t, "store r2 r2, ret r7", "entry 0", "store v0 v0 > 1", "ret v1", "value 0 r2", "value 1 v2", "value 0 r7")
	hasText(t, "const r1 3, store r1 r2, jump 1", "entry 0", "store #3 v0 > 0", "value 0 r2 v0")
	hasText(t, "const r1 3, store r2 r1, jump 3, jump 2", "entry 0", "store v0 #3 > -", "value 0 r2")
	hasText(t, "const r1 3, store r1 r1, ret r1", "entry 0", "store #3 #3 > 1", "ret #3")
	for l := range 8 {
		hasText(t, "ret r"+strconv.Itoa(l), "entry 0", "ret v0", "value 0 r"+strconv.Itoa(l))
	}
	for _, n := range []string{"#0", "#1", "#-1", "#9223372036854775807", "#-9223372036854775808"} {
		hasText(t, "const r4 "+n[1:]+", ret r4", "entry 0", "ret "+n)
		hasText(t, "const s4 "+n[1:]+", mov r3 s4, load r1 r3, store r3 r1, zero r3 3, call r1 r3 9, ret r3",
			"entry 0", "load "+n+" > 1", "store "+n+" v0 > 2", "zero "+n+" > 1 > 3", "call 9 "+n+" > 4", "ret "+n, "value 1 def v1", "value 2 v0")
	}
}

// P13.1: N is told of a Call, and of a Call alone.
func TestCallsNumber(t *testing.T) {
	for n := range 100 {
		s := strconv.Itoa(n)
		hasText(t, "call r1 r2 "+s+", ret r1", "entry 0", "call "+s+" v0 > 1", "ret v1", "value 0 r2", "value 1 def")
	}
	hasText(t, "const r2 77, call r1 r2 3, add r1 r1 r2, call r1 r1 4, zero r1 0, ret r1",
		"entry 0", "call 3 #77 > 1", "add v0 #77 > 2", "call 4 v1 > 3", "zero v2 > 0 > 4", "ret v3",
		"value 1 def", "value 2 def", "value 3 def", "value 4 v2")
	each(t, func(f []api.Ins) {
		for n, node := range formOf(t, f).Nodes {
			if node.N != 0 && node.Op != api.Call {
				t.Fatalf("%v: node %d, whose Op is %d, has the N %d", f, n, node.Op, node.N)
			}
		}
	})
}

// P13.1: a Zero's Outs: by its To, and by the next place; also to one node, to itself, nowhere.
func TestZero(t *testing.T) {
	hasText(t, "zero r0 2, ret r1, ret r2", "entry 0", "zero v0 > 1 > 2", "ret v1", "ret v2", "value 0 r0", "value 1 v3", "value 2 v4", "value 0 r2", "value 0 r1")
	hasText(t, "zero r7 1, ret r7", "entry 0", "zero v0 > 1 > 1", "ret v1", "value 0 r7", "value 1 v0 v0")
	hasText(t, "zero r0 0, ret r0", "entry 0", "zero v0 > 0 > 1", "ret v1", "value 0 r0 v0", "value 1 v0")
	hasText(t, "zero r0 2, jump 0, ret r0", "entry 0", "zero v0 > 1 > 0", "ret v1", "value 0 r0 v0", "value 1 v0")
	hasText(t, "zero r0 2, ret r0, jump 2", "entry 0", "zero v0 > - > 1", "ret v1", "value 0 r0", "value 1 v0")
	hasText(t, "zero r0 2, jump 1, ret r0", "entry 0", "zero v0 > 1 > -", "ret v1", "value 0 r0", "value 1 v0")
	hasText(t, "zero r0 2, jump 1, jump 2", "entry 0", "zero v0 > - > -", "value 0 r0")
	hasText(t, "const r0 0, zero r0 3, jump 1, ret r0", "entry 0", "zero #0 > 1 > 0", "ret #0")
	// What was met first has the lower number, wherever it stands.
	hasText(t, "jump 6, ret r1, store r1 r1, jump 1, load r1 r1, jump 2, zero r0 4, jump 2", "entry 0", "zero v0 > 1 > 2", "load v1 > 2", "store v2 v2 > 3", "ret v3",
		"value 0 r0", "value 1 v4", "value 2 v4 def", "value 3 v2", "value 0 r1")
}

// P13.1: an Arg is the number that its place has by all ways, or else its value: also where numbers meet.
func TestArgs(t *testing.T) {
	hasText(t, "const r1 5, zero r0 3, const r1 5, ret r1", "entry 0", "zero v0 > 1 > 1", "ret #5", "value 0 r0")
	hasText(t, "const r1 5, zero r0 3, const r1 6, ret r1", "entry 0", "zero v0 > 1 > 1", "ret v1", "value 0 r0", "value 1 #5 #6")
	hasText(t, "const r1 5, zero r1 3, swap r1 s0, ret r1", "entry 0", "zero #5 > 1 > 1", "ret v0", "value 1 #5 none")
	hasText(t, "const r1 5, load r1 r1, ret r1", "entry 0", "load #5 > 1", "ret v0", "value 1 def")
	// A number that stays one as it goes round, from place to place.
	hasText(t, "const r1 5, const r2 5, store r1 r2, swap r1 r2, jump 2", "entry 0", "store #5 #5 > 0")
	hasText(t, "const r1 5, const r2 6, store r1 r2, swap r1 r2, jump 2", "entry 0", "store v0 v1 > 0", "value 0 #5 v1", "value 0 #6 v0")
}

// P13.1: a node that is cut: Op 0, no N, no Args, no Outs.
func TestCut(t *testing.T) {
	hasText(t, "mov r1 s0, ret r1", "entry 0", "cut")
	for _, x := range []string{"add r2 r1 r0", "add r2 r0 r1", "same r2 r1 r1", "load r2 r1", "store r0 r1", "store r1 r0", "call r2 r1 99", "zero r1 3"} {
		hasText(t, "mov r1 s5, "+x+", load r2 r3, ret r2", "entry 0", "cut")
		hasText(t, "mov r1 s5, load r3 r2, "+x+", ret r2", "entry 0", "load v0 > 1", "cut", "value 0 r2")
	}
	hasText(t, "mov r1 s3, call r2 r0 1, add r2 r2 r1, call r2 r2 2, ret r2", "entry 0", "call 1 v0 > 1", "cut", "value 0 r0")
	// What is behind it has its ways from elsewhere; it has none.
	hasText(t, "mov r1 s3, zero r0 4, call r0 r1 7, jump 4, ret r0", "entry 0", "zero v0 > 1 > 2", "ret v1", "cut", "value 0 r0", "value 1 v0")
	hasText(t, "mov r1 s3, zero r0 3, jump 5, call r0 r1 7, jump 5, ret r0", "entry 0", "zero v0 > 1 > 2", "cut", "ret v1", "value 0 r0", "value 2 v0")
	// One is cut since another one is, which gives its place nothing then.
	hasText(t, "zero r0 4, mov r1 s0, load r2 r1, mov s1 r2, mov r3 s1, ret r3", "entry 0", "zero v0 > 1 > 2", "cut", "cut", "value 0 r0")
	// Of what is nothing by one way alone nothing is cut.
	hasText(t, "zero r0 2, mov r1 s0, ret r1", "entry 0", "zero v0 > 1 > 1", "ret v1", "value 0 r0", "value 1 v2 none", "value 0 r1")
}

// P13.1: a value that comes from a register at the beginning, whichever place it was moved to.
func TestFromReg(t *testing.T) {
	for a := range 8 {
		r := "r" + strconv.Itoa(a)
		hasText(t, "call r1 "+r+" 0, jump 0", "entry 0", "call 0 v0 > 0", "value 0 "+r+[]string{" v0", " def"}[btoi(a == 1)])
		for l := range 16 {
			s := "s" + strconv.Itoa(l)
			hasText(t, "mov "+s+" "+r+", const "+r+" 1, mov r1 "+s+", ret r1", "entry 0", "ret v0", "value 0 "+r)
		}
	}
}

func btoi(b bool) int {
	if b {
		return 1
	}
	return 0
}

// P13.1: values that come from numbers, and from nothing, at the beginning and by other ways.
func TestFromNumberAndNothing(t *testing.T) {
	hasText(t, "const r1 5, add r1 r1 r0, jump 1", "entry 0", "add v0 v1 > 0", "value 0 #5 def", "value 0 r0 v1")
	hasText(t, "add r1 r1 r0, const r0 -9223372036854775808, jump 0", "entry 0", "add v0 v1 > 0", "value 0 r1 def", "value 0 r0 #-9223372036854775808")
	hasText(t, "const r1 9223372036854775807, const r0 0, add r1 r1 r0, const r0 -1, jump 2", "entry 0", "add v0 v1 > 0", "value 0 #9223372036854775807 def", "value 0 #0 #-1")
	hasText(t, "mov r1 s0, add r2 r1 r0, mov r1 r2, jump 1", "entry 0", "add v0 v1 > 0", "value 0 none def", "value 0 r0 v1")
	hasText(t, "add r1 r1 r0, mov r0 s0, jump 0", "entry 0", "add v0 v1 > 0", "value 0 r1 def", "value 0 r0 none")
	hasText(t, "const s3 4, zero r0 4, mov r1 s3, jump 6, mov r1 s4, jump 6, ret r1", "entry 0", "zero v0 > 1 > 1", "ret v1", "value 0 r0", "value 1 none #4")
}

// P13.1: Def is what the node that is left came to: another one, or the same.
func TestFromDef(t *testing.T) {
	for _, x := range []string{"add r1 r0 r0", "load r1 r0", "call r1 r0 3", "xor r1 r0 r0"} {
		head := map[byte]string{'a': "add v0 v0", 'l': "load v0", 'c': "call 3 v0", 'x': "xor v0 v0"}[x[0]]
		hasText(t, x+", ret r1", "entry 0", head+" > 1", "ret v1", "value 0 r0", "value 1 def")
		hasText(t, x+", mov s0 r1, const r1 4, mov r0 s0, jump 0", "entry 0", head+" > 0", "value 0 r0 def")
		// Behind the node ahead it is that one's value.
		hasText(t, x+", store r0 r0, ret r1", "entry 0", head+" > 1", "store v1 v1 > 2", "ret v2", "value 0 r0", "value 1 v0", "value 2 v3", "value 1 def")
	}
	// A Zero and a Store come to nothing of their own: all is what it was there.
	hasText(t, "store r1 r2, ret r0", "entry 0", "store v0 v1 > 1", "ret v2", "value 0 r1", "value 0 r2", "value 1 v3", "value 0 r0")
	hasText(t, "zero r1 1, ret r0", "entry 0", "zero v0 > 1 > 1", "ret v1", "value 0 r1", "value 1 v2 v2", "value 0 r0")
}

// P13.1: values that come from values: of another node, of the same, of themselves, in a circle of nodes.
func TestFromValues(t *testing.T) {
	hasText(t, "call r1 r0 1, call r1 r0 2, ret r0", "entry 0", "call 1 v0 > 1", "call 2 v1 > 2", "ret v2", "value 0 r0", "value 1 v0", "value 2 v1")
	hasText(t, "call r1 r0 1, jump 0", "entry 0", "call 1 v0 > 0", "value 0 r0 v0")
	hasText(t, "call r1 r0 1, swap r0 s0, mov r0 r2, jump 0", "entry 0", "call 1 v0 > 0", "value 0 r0 v1", "value 0 r2 v1")
	hasText(t, "call r1 r0 1, swap r0 r2, jump 0", "entry 0", "call 1 v0 > 0", "value 0 r0 v1", "value 0 r2 v0")
	hasText(t, "call r1 r0 1, call r1 r0 2, jump 0", "entry 0", "call 1 v0 > 1", "call 2 v1 > 0", "value 0 r0 v1", "value 1 v0")
	hasText(t, "call r1 r0 1, mov s1 r0, mov r0 r2, call r1 r0 2, mov r2 s1, call r1 r0 3, jump 0",
		"entry 0", "call 1 v0 > 1", "call 2 v1 > 2", "call 3 v2 > 0",
		"value 0 r0 v2", "value 1 v3", "value 2 v1", "value 0 r2 v4", "value 2 v5", "value 1 v0")
}

// P13.1: by several ways to a node, in their order: the beginning's ahead of all, then by the node from which they come, then by which of its ways they are.
func TestFromByWays(t *testing.T) {
	hasText(t, "zero r0 3, mov r1 r2, jump 3, ret r1", "entry 0", "zero v0 > 1 > 1", "ret v1", "value 0 r0", "value 1 v2 v3", "value 0 r1", "value 0 r2")
	hasText(t, "zero r0 3, jump 5, ret r1, mov r1 r2, jump 2, jump 2", "entry 0", "zero v0 > 1 > 1", "ret v1", "value 0 r0", "value 1 v2 v3", "value 0 r2", "value 0 r1")
	hasText(t, "zero r0 4, zero r1 6, mov r0 r4, jump 0, mov r0 r2, jump 0, mov r0 r3, jump 0",
		"entry 0", "zero v0 > 0 > 1", "zero v1 > 0 > 0",
		"value 0 r0 v2 v3 v4", "value 1 v5", "value 0 r2 v2 v6 v6", "value 1 v7", "value 1 v8", "value 0 r1 v5 v1 v1", "value 1 v2", "value 0 r3 v7 v3 v3", "value 0 r4 v8 v4 v4")
	hasText(t, "call r1 r0 1, zero r1 4, const r0 7, jump 0, mov r0 s0, jump 0", "entry 0", "call 1 v0 > 1", "zero v1 > 0 > 0", "value 0 r0 none #7", "value 1 def")
}

// P13.1: where a place's number at the node ahead is one by all ways, or nothing, it comes from that.
func TestFromFacts(t *testing.T) {
	hasText(t, "const r1 5, call r2 r0 1, zero r2 4, mov r3 r1, ret r3", "entry 0", "call 1 v0 > 1", "zero v1 > 2 > 2", "ret v2",
		"value 0 r0", "value 1 def", "value 2 v3 #5", "value 1 v4", "value 0 r3")
	hasText(t, "call r2 r0 1, zero r2 3, mov r3 s9, ret r3", "entry 0", "call 1 v0 > 1", "zero v1 > 2 > 2", "ret v2",
		"value 0 r0", "value 1 def", "value 2 v3 none", "value 1 v4", "value 0 r3")
	// Through a circle of nodes, in which the number goes from place to place.
	hasText(t, "const r1 5, const s1 5, call r2 r0 1, swap r1 s1, zero r2 2, mov r0 r1, jump 2", "entry 0", "call 1 v0 > 1", "zero v1 > 0 > 0",
		"value 0 r0 v2 #5", "value 1 def", "value 1 v0")
	// One of two ways of one node.
	hasText(t, "const r1 0, mov s0 s1, zero r0 4, mov r1 s0, zero r0 6, mov r1 r0, ret r1", "entry 0", "zero v0 > 1 > 1", "zero v1 > 2 > 2", "ret v2",
		"value 0 r0", "value 1 v0 v0", "value 2 v3 v1", "value 1 #0 none")
}

// P13.1: of the longest functions.
func TestLongest(t *testing.T) {
	has(t, long(api.MaxIns), "entry 0", "ret v0", "value 0 r4")
	// 199 adds, each with what the same two registers have, and a ret with what another one had all the way.
	want := []string{"entry 0"}
	for n := range 199 {
		want = append(want, "add v"+strconv.Itoa(2*n)+" v"+strconv.Itoa(2*n+1)+" > "+strconv.Itoa(n+1))
	}
	want = append(want, "ret v398", "value 0 r2", "value 0 r3")
	for n := range 198 {
		want = append(want, "value "+strconv.Itoa(n+1)+" v"+strconv.Itoa(2*n), "value "+strconv.Itoa(n+1)+" v"+strconv.Itoa(2*n+1))
	}
	for n := range 199 {
		want = append(want, "value "+strconv.Itoa(199-n)+" v"+strconv.Itoa(399+n))
	}
	has(t, straight(api.MaxIns), append(want, "value 0 r0")...)
}
