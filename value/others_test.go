package value_test

import (
	"math"
	"slices"
	"testing"

	"joinery/api"
	"joinery/env"
	"joinery/skel"
	"joinery/value"
)

// Sources of kinds that env has not: one that can be compared, one that can't, one that panics when it is asked.
type (
	foreign struct{ Loc int }
	listed  []int
	bad     struct{}
)

func (foreign) Text() string { return "r0" }
func (listed) Text() string  { return "r0" }
func (bad) Text() string     { panic("asked") }

// clone answers a skeleton in memory of its own.
func clone(s skel.Skeleton) skel.Skeleton {
	s.Nodes = slices.Clone(s.Nodes)
	for n, x := range s.Nodes {
		s.Nodes[n].Outs = slices.Clone(x.Outs)
	}
	return s
}

// same: are two skeletons alike, the second of which was built? R3: a nil list and an empty one are.
func same(s, built skel.Skeleton) bool {
	return s.Entry == built.Entry && slices.EqualFunc(s.Nodes, built.Nodes, func(x, y skel.Node) bool {
		return x.At == y.At && slices.Equal(x.Outs, y.Outs)
	})
}

// couldBe: is there any choice of cut places with which skel.Build makes that skeleton of that function? All are tried.
func couldBe(f []api.Ins, s skel.Skeleton) bool {
	var places []int
	for at, x := range f {
		if !onlyMoves(x) && x.Op != api.Ret {
			places = append(places, at)
		}
	}
	for choice := range 1 << len(places) {
		cut := make([]bool, len(f))
		for i, at := range places {
			cut[at] = choice>>i&1 == 1
		}
		if b, e := skel.Build(f, cut); e == api.OK && same(s, b) {
			return true
		}
	}
	return false
}

// tells: of a skeleton that was built, all is told; of another one, nothing.
func tells(t *testing.T, what string, f []api.Ins, s skel.Skeleton, made bool) {
	t.Helper()
	all, facts := value.All(f, s), value.Facts(f, s)
	if made {
		if !sameAll(all, workedAll(f, s)) || !sameFacts(facts, workedFacts(f, s)) {
			t.Fatalf("%s: %v, %v: it was built, and All tells %v, Facts %v", what, f, s, all, facts)
		}
	} else if len(all) != 0 || len(facts) != 0 {
		t.Fatalf("%s: %v, %v: it was not built, and All tells %v, Facts %v", what, f, s, all, facts)
	}
	for from := -1; from <= len(s.Nodes); from++ {
		for k := range 3 {
			e := edge(from, k)
			there := from == -1 && k == 0 || from >= 0 && from < len(s.Nodes) && k < len(s.Nodes[from].Outs)
			for _, l := range []int{0, 1, 2, 7, 8, 9, 23} {
				x := value.By(f, s, e, l)
				switch {
				case !made || !there:
					if x != none() {
						t.Fatalf("%s: %v, %v: by %v place %d has %v, and it was built %t, there %t", what, f, s, e, l, x, made, there)
					}
				case out(s, e).To >= 0:
					if x != workedBy(f, s, e, l) {
						t.Fatalf("%s: %v, %v: by %v place %d has %v", what, f, s, e, l, x)
					}
				}
			}
		}
	}
}

// change is one that is made to a skeleton; false, if there is nothing to be changed.
type change func(s *skel.Skeleton) bool

// changedWays are the changes of one way.
func changedWays() map[string]func(o *skel.Out) {
	changes := map[string]func(o *skel.Out){
		"one node on":       func(o *skel.Out) { o.To++ },
		"one node back":     func(o *skel.Out) { o.To-- },
		"nowhere":           func(o *skel.Out) { o.To = -1 },
		"to node 0":         func(o *skel.Out) { o.To = 0 },
		"far beyond":        func(o *skel.Out) { o.To = math.MaxInt },
		"far below":         func(o *skel.Out) { o.To = math.MinInt },
		"the first table":   func(o *skel.Out) { o.T = env.New() },
		"no table":          func(o *skel.Out) { o.T = env.Table{} },
		"behind a mov":      func(o *skel.Out) { o.T = env.After(o.T, api.Ins{Op: api.Mov, D: 2, A: 3}) },
		"behind a const":    func(o *skel.Out) { o.T = env.After(o.T, api.Ins{Op: api.Const, D: 23, N: 5}) },
		"behind a swap":     func(o *skel.Out) { o.T = env.After(o.T, api.Ins{Op: api.Swap, D: 0, A: 8}) },
		"another table":     func(o *skel.Out) { o.T = env.Then(o.T, env.After(env.New(), api.Ins{Op: api.Const, D: 0})) },
		"node and table":    func(o *skel.Out) { *o = skel.Out{To: o.To + 1} },
		"all, and the same": func(o *skel.Out) { o.T = env.Then(env.New(), o.T) },
	}
	for _, l := range []int{0, 1, 7, 8, 22, 23} {
		for what, x := range map[string]env.Source{
			"nil": nil, "place 0": env.Was{Loc: 0}, "place 23": env.Was{Loc: 23}, "no place": env.Was{Loc: 24}, "a place below 0": env.Was{Loc: -1}, "its own place": env.Was{Loc: l},
			"a pointer to its own place": &env.Was{Loc: l}, "a pointer to nothing": (*env.Was)(nil), "a pointer to a number": &env.Is{}, "0": env.Is{}, "1": env.Is{N: 1}, "its own number": env.Is{N: int64(l)},
			"another kind": foreign{Loc: l}, "a list": listed{l}, "no list": listed(nil), "what panics": bad{}, "a pointer to a kind": &foreign{},
		} {
			changes[what+" at "+string(rune('a'+l))] = func(o *skel.Out) { o.T[l] = x }
		}
	}
	return changes
}

// changes are those of a skeleton.
func changes() map[string]change {
	all := map[string]change{
		"none":           func(s *skel.Skeleton) bool { return true },
		"no nodes":       func(s *skel.Skeleton) bool { s.Nodes = nil; return true },
		"nothing at all": func(s *skel.Skeleton) bool { *s = skel.Skeleton{}; return true },
		"another one":    func(s *skel.Skeleton) bool { *s, _ = skel.Build([]api.Ins{{Op: api.Ret, A: 3}}, nil); return true },
		"one node more": func(s *skel.Skeleton) bool {
			s.Nodes = append(s.Nodes, skel.Node{At: len(s.Nodes)})
			return true
		},
		"many nodes more": func(s *skel.Skeleton) bool {
			s.Nodes = append(s.Nodes, make([]skel.Node, 300)...)
			return true
		},
	}
	onNode := map[string]func(s *skel.Skeleton, n int){
		"no ways":          func(s *skel.Skeleton, n int) { s.Nodes[n].Outs = nil },
		"empty ways":       func(s *skel.Skeleton, n int) { s.Nodes[n].Outs = []skel.Out{} },
		"one way more":     func(s *skel.Skeleton, n int) { s.Nodes[n].Outs = append(s.Nodes[n].Outs, s.Entry) },
		"the first alone":  func(s *skel.Skeleton, n int) { s.Nodes[n].Outs = s.Nodes[n].Outs[:min(1, len(s.Nodes[n].Outs))] },
		"the second alone": func(s *skel.Skeleton, n int) { s.Nodes[n].Outs = s.Nodes[n].Outs[min(1, len(s.Nodes[n].Outs)):] },
		"ways turned":      func(s *skel.Skeleton, n int) { slices.Reverse(s.Nodes[n].Outs) },
		"one place on":     func(s *skel.Skeleton, n int) { s.Nodes[n].At++ },
		"one place back":   func(s *skel.Skeleton, n int) { s.Nodes[n].At-- },
		"far beyond":       func(s *skel.Skeleton, n int) { s.Nodes[n].At = math.MaxInt },
		"far below":        func(s *skel.Skeleton, n int) { s.Nodes[n].At = math.MinInt },
		"far, and no way":  func(s *skel.Skeleton, n int) { s.Nodes[n] = skel.Node{At: math.MaxInt} },
		"low, and no way":  func(s *skel.Skeleton, n int) { s.Nodes[n] = skel.Node{At: -1} },
		"taken away":       func(s *skel.Skeleton, n int) { s.Nodes = slices.Delete(s.Nodes, n, n+1) },
		"twice":            func(s *skel.Skeleton, n int) { s.Nodes = slices.Insert(s.Nodes, n, s.Nodes[n]) },
		"the last for it": func(s *skel.Skeleton, n int) {
			s.Nodes[n], s.Nodes[len(s.Nodes)-1] = s.Nodes[len(s.Nodes)-1], s.Nodes[n]
		},
		"none behind it": func(s *skel.Skeleton, n int) { s.Nodes = s.Nodes[:n] },
	}
	for n := range 3 {
		for what, by := range onNode {
			all[what+" at node "+string(rune('0'+n))] = func(s *skel.Skeleton) bool {
				if n < len(s.Nodes) {
					by(s, n)
				}
				return n <= len(s.Nodes)
			}
		}
	}
	for what, by := range changedWays() {
		all[what+" of the Entry"] = func(s *skel.Skeleton) bool { by(&s.Entry); return true }
		for n := range 2 {
			for k := range 2 {
				all[what+" of node "+string(rune('0'+n))+"'s "+string(rune('0'+k))] = func(s *skel.Skeleton) bool {
					if n >= len(s.Nodes) || k >= len(s.Nodes[n].Outs) {
						return false
					}
					by(&s.Nodes[n].Outs[k])
					return true
				}
			}
		}
	}
	return all
}

// smallTexts are functions of few nodes.
func smallTexts() []string {
	return []string{
		"ret r0\n",
		"jump 0\n",
		"const r1 5\nret r1\n",
		"mov r1 s0\nret r1\n",
		"add r1 r2 r3\nret r1\n",
		"const s15 5\nadd r1 r2 r3\nmov r2 r3\nret r1\n",
		"store r1 r2\nmov r2 r1\njump 0\n",
		"zero r0 3\nswap r1 s0\nret r1\nconst r0 0\nret r2\n",
		"mov r1 r0\nzero r1 0\nret r1\n",
		"zero r0 2\njump 1\njump 2\n",
		"zero r0 1\ncall r1 r0 1\nmov r0 r1\njump 0\n",
		"call r1 r2 0\nzero r1 3\nmov r1 s0\nret r1\n",
		"zero r0 3\nload r1 r2\njump 3\nmov r3 r1\nret r3\n",
		"swap r0 s0\nzero r0 5\nmov r1 s0\nadd r2 r1 r1\nconst s1 5\nmov r3 s1\nret r3\n",
	}
}

// P11.1, P11.2: skeletons that skel.Build did not make of that function, and those that it did, with other places cut: each change is held against all that it could have made.
func TestOtherSkeletons(t *testing.T) {
	whole, broken := map[string]int{}, map[string]int{}
	for _, text := range smallTexts() {
		f := parsed(t, text)
		for _, cut := range [][]bool{nil, mask(len(f), 0), mask(len(f), len(f)-1, len(f)/2)} {
			for what, by := range changes() {
				s := clone(built(t, f, cut))
				if !by(&s) {
					continue
				}
				made := couldBe(f, s)
				tells(t, what, f, s, made)
				if made {
					whole[what]++
				} else {
					broken[what]++
				}
			}
		}
	}
	for what := range changes() {
		if broken[what] == 0 && whole[what] == 0 {
			t.Errorf("%s changed nothing", what)
		}
	}
	if whole["none"] != 3*len(smallTexts()) || whole["no ways at node 0"] == 0 || broken["no ways at node 0"] == 0 || len(broken) < len(changes())*9/10 {
		t.Errorf("as built: %v; not so: %v", whole, broken)
	}
}

// P11.1, P11.2: the skeleton of another function: only where it is this one's, too, something is told.
func TestSkeletonsOfOthers(t *testing.T) {
	made, other := 0, 0
	for _, a := range smallTexts() {
		for _, b := range smallTexts() {
			f, s := parsed(t, a), built(t, parsed(t, b), nil)
			tells(t, b, f, s, couldBe(f, s))
			if a != b && couldBe(f, s) {
				made++
			} else if a != b {
				other++
			}
		}
	}
	if other < 100 {
		t.Errorf("%d of other functions, %d of this one, too", other, made)
	}
	// The same skeleton, of a function with another instruction of one way out.
	f, g := parsed(t, "const r2 5\nadd r1 r2 r3\nret r1\n"), parsed(t, "const r2 5\nload r2 r3\nret r1\n")
	tells(t, "another operation", f, built(t, g, nil), true)
	tells(t, "another operation", g, built(t, f, nil), true)
	tells(t, "another number", parsed(t, "const r2 6\nadd r1 r2 r3\nret r1\n"), built(t, f, nil), false)
	tells(t, "another place", parsed(t, "const r4 5\nadd r1 r2 r3\nret r1\n"), built(t, f, nil), false)
	tells(t, "a place later", parsed(t, "const r2 5\nmov r0 r0\nadd r1 r2 r3\nret r1\n"), built(t, f, nil), false)
	tells(t, "more behind it", parsed(t, "const r2 5\nadd r1 r2 r3\nret r1\nret r2\n"), built(t, f, nil), true)
}

// P11.1, P11.2: of a function that isn't right there is no skeleton.
func TestFunctionsThatAreWrong(t *testing.T) {
	for what, f := range wrongFunctions() {
		for _, text := range smallTexts() {
			tells(t, what, f, built(t, parsed(t, text), nil), false)
		}
		tells(t, what, f, skel.Skeleton{}, false)
		tells(t, what, f, skel.Skeleton{Entry: skel.Out{To: -1, T: env.New()}}, false)
		tells(t, what, f, skel.Skeleton{Entry: skel.Out{T: env.New()}, Nodes: []skel.Node{{At: 0}}}, false)
	}
	// One instruction that is wrong, which no way reaches.
	f := parsed(t, "add r1 r2 r3\nret r1\nret r2\n")
	s := built(t, f, nil)
	tells(t, "right", f, s, true)
	for _, x := range []api.Ins{{}, {Op: api.Ret, A: 8}, {Op: api.Jump, To: 3}, {Op: api.Mov}} {
		f[2] = x
		tells(t, "wrong", f, s, false)
	}
}

// P11.1, P11.2: one change of the longest function's skeleton, at each end and in the middle.
func TestOtherSkeletonsOfLongest(t *testing.T) {
	f := backwards(200)
	s := built(t, f, nil)
	if len(value.All(f, s)) != 197 || len(value.Facts(f, s)) != 197 {
		t.Fatal("the function's own skeleton isn't told of")
	}
	for _, n := range []int{0, 1, 98, 195, 196} {
		for what, by := range map[string]func(x *skel.Node){
			"place":      func(x *skel.Node) { x.At++ },
			"node":       func(x *skel.Node) { x.Outs[1].To++ },
			"source":     func(x *skel.Node) { x.Outs[0].T[23] = env.Was{Loc: 22} },
			"number":     func(x *skel.Node) { x.Outs[1].T[0] = env.Is{} },
			"way":        func(x *skel.Node) { x.Outs = x.Outs[:1] },
			"way's copy": func(x *skel.Node) { x.Outs = append(x.Outs, x.Outs[1]) },
		} {
			other := clone(s)
			by(&other.Nodes[n])
			if all, facts := value.All(f, other), value.Facts(f, other); len(all) != 0 || len(facts) != 0 {
				t.Errorf("another %s of node %d: %d nodes, %d", what, n, len(all), len(facts))
			}
			for _, e := range []api.Edge{entry(), edge(0, 1), edge(n, 0), edge(196, 0)} {
				if x := value.By(f, other, e, 1); x != none() {
					t.Errorf("another %s of node %d: by %v %v", what, n, e, x)
				}
			}
		}
	}
}
