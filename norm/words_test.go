package norm_test

import (
	"slices"
	"testing"

	"joinery/api"
	"joinery/asm"
	"joinery/norm"
	"joinery/skel"
	"joinery/value"
)

// place is a place of a node.
type place struct{ node, l int }

// basis is what the layers below tell of a function, and which of its values are alike.
type basis struct {
	f     []api.Ins
	cut   []bool
	s     skel.Skeleton
	ways  [][]api.Edge
	by    [][][]api.Src
	facts [][]api.Src
	like  [][24][24]bool
}

// comes is what a place comes from by one way, as the chapter's Words say: Val is of a place of the node from which the way comes.
func (b basis) comes(n, w, l int) api.Src {
	x := b.by[n][w][l]
	if x.Kind != 4 {
		return x
	}
	if fact := b.facts[b.ways[n][w].From][x.N]; fact.Kind != 4 {
		return fact
	}
	return x
}

// same: by that way, do two places come from the same?
func (b basis) same(n, w, i, k int) bool {
	x, y := b.comes(n, w, i), b.comes(n, w, k)
	if x.Kind == 4 && y.Kind == 4 {
		return b.like[b.ways[n][w].From][x.N][y.N]
	}
	return x == y
}

// workedAlike tells which values of one node are alike: all pairs are held to be, till by some way they come from what isn't the same.
func (b *basis) workedAlike() {
	b.like = make([][24][24]bool, len(b.s.Nodes))
	for n := range b.like {
		for i := range 24 {
			for k := range 24 {
				b.like[n][i][k] = b.facts[n][i].Kind == 4 && b.facts[n][k].Kind == 4
			}
		}
	}
	for more := true; more; {
		more = false
		for n := range b.like {
			for i := range 24 {
				for k := range 24 {
					for w := range b.ways[n] {
						if b.like[n][i][k] && !b.same(n, w, i, k) {
							b.like[n][i][k], more = false, true
						}
					}
				}
			}
		}
	}
}

// needs answers the places that an instruction needs, by the table of chapter 3.
func needs(x api.Ins) []int {
	switch {
	case x.Op >= 4 && x.Op <= 12, x.Op == 14:
		return []int{x.A, x.B}
	case x.Op == 13, x.Op == 15, x.Op == 17, x.Op == 18:
		return []int{x.A}
	}
	return nil
}

// onlyMoves: is it Const, Mov, Swap or Jump?
func onlyMoves(x api.Ins) bool {
	return x.Op == 1 || x.Op == 2 || x.Op == 3 || x.Op == 16
}

// basisOf asks the layers below of a function that is right.
func basisOf(f []api.Ins) basis {
	b := basis{f: f}
	b.cut, _ = value.Cut(f)
	b.s, _ = skel.Build(f, b.cut)
	b.ways, b.by, b.facts = skel.Ways(b.s), value.All(f, b.s), value.Facts(f, b.s)
	b.workedAlike()
	return b
}

// met answers the values of a form in the order of their numbers, each by the place of which it was met first.
func (b basis) met() []place {
	var l []place
	add := func(n int, x api.Src) {
		if x.Kind == 4 && b.number(l, n, int(x.N)) < 0 {
			l = append(l, place{n, int(x.N)})
		}
	}
	for n, node := range b.s.Nodes {
		if !b.cut[node.At] {
			for _, need := range needs(b.f[node.At]) {
				add(n, b.facts[n][need])
			}
		}
	}
	for v := 0; v < len(l); v++ {
		for w, e := range b.ways[l[v].node] {
			add(e.From, b.comes(l[v].node, w, l[v].l))
		}
	}
	return l
}

// number answers which of the values that were met a place is; -1, if none.
func (b basis) number(l []place, n, at int) int {
	return slices.IndexFunc(l, func(p place) bool { return p.node == n && b.like[n][p.l][at] })
}

// workedForm is the normal form of a function that is right, as the chapter's Words say.
func workedForm(f []api.Ins) api.Form {
	b := basisOf(f)
	l := b.met()
	named := func(n int, x api.Src) api.Src {
		if x.Kind == 4 {
			x.N = int64(b.number(l, n, int(x.N)))
		}
		return x
	}
	x := api.Form{Entry: b.s.Entry.To}
	for n, node := range b.s.Nodes {
		var m api.Node
		if i := f[node.At]; !b.cut[node.At] {
			m.Op = i.Op
			if i.Op == 15 {
				m.N = i.N
			}
			for _, need := range needs(i) {
				m.Args = append(m.Args, named(n, b.facts[n][need]))
			}
			for _, o := range node.Outs {
				m.Outs = append(m.Outs, o.To)
			}
		}
		x.Nodes = append(x.Nodes, m)
	}
	for _, p := range l {
		v := api.Value{At: p.node}
		for w, e := range b.ways[p.node] {
			v.From = append(v.From, named(e.From, b.comes(p.node, w, p.l)))
		}
		x.Vals = append(x.Vals, v)
	}
	return x
}

// holdWords: a function has the form that the chapter's Words say, or none, if it isn't right.
func holdWords(t *testing.T, f []api.Ins) api.Form {
	t.Helper()
	x, e := norm.Of(f)
	if !asm.Right(f) {
		if e != 1 || !empty(x) {
			t.Fatalf("%v: %d, and\n%s", f, e, text(x))
		}
		return x
	}
	if want := workedForm(f); e != 0 || text(x) != text(want) {
		t.Fatalf("%v: %d, and the form is\n%s\nit ought to be\n%s", f, e, text(x), text(want))
	}
	return x
}

// P13.1: functions of all kinds, against the chapter's Words.
func TestAgainstWords(t *testing.T) {
	kinds, ops, most, joined := map[int]int{}, map[int]int{}, 0, 0
	each(t, func(f []api.Ins) {
		x := holdWords(t, f)
		for _, node := range x.Nodes {
			ops[node.Op]++
			for _, a := range node.Args {
				kinds[10+a.Kind]++
			}
		}
		for _, v := range x.Vals {
			for _, from := range v.From {
				kinds[from.Kind]++
			}
		}
		most = max(most, len(x.Vals))
		joined += unlikeButFor(f, x)
	})
	for _, kind := range []int{0, 1, 2, 3, 4, 12, 14} {
		if kinds[kind] < 100 {
			t.Errorf("no more than %d sources of kind %d", kinds[kind], kind)
		}
	}
	for op := range words() {
		if ops[op] < 10 {
			t.Errorf("no more than %d nodes of Op %d", ops[op], op)
		}
	}
	if most < 40 || joined < 100 {
		t.Errorf("at most %d values, and %d that are alike", most, joined)
	}
}

// unlikeButFor answers how many needed places have a value that another place that is needed at that node has, too.
func unlikeButFor(f []api.Ins, x api.Form) int {
	cut, _ := value.Cut(f)
	s, _ := skel.Build(f, cut)
	count := 0
	for n, node := range x.Nodes {
		i := f[s.Nodes[n].At]
		if len(node.Args) == 2 && node.Args[0].Kind == 4 && node.Args[0] == node.Args[1] && i.A != i.B {
			count++
		}
	}
	return count
}
