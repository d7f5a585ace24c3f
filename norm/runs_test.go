package norm_test

import (
	"slices"
	"testing"

	"joinery/api"
	"joinery/run"
	"joinery/step"
)

// cases are some of which runs begin.
func cases() []api.Case {
	var l []api.Case
	for seed := range uint64(6) {
		draw := drawer(seed)
		c := api.Case{Heap: []int64{2, 0, 1, 7}, Answers: []int64{0, 3, 1, 0, 2, 5, 0, 1}, Fuel: 200}
		for r := range c.R {
			c.R[r] = int64(draw(4)) - 1
		}
		l = append(l, c)
	}
	return l
}

// walker goes along a form beside a run of its function.
type walker struct {
	x    api.Form
	c    api.Case
	at   int
	has  []api.Word
	came api.Word
}

// enter goes by a way, the k-th out of a node (-1: the beginning), to the node to which that leads: all values there get what they come from.
func (w *walker) enter(from, k int) {
	to := w.x.Entry
	if from >= 0 {
		to = w.x.Nodes[from].Outs[k]
	}
	which := 0
	if to >= 0 {
		// By the form alone: how many ways to that node are ahead of this one.
		for m, node := range w.x.Nodes {
			for i, out := range node.Outs {
				if out == to && (m < from || m == from && i < k) {
					which++
				}
			}
		}
		if w.x.Entry == to && from >= 0 {
			which++
		}
	}
	next := make([]api.Word, len(w.x.Vals))
	for i, v := range w.x.Vals {
		if v.At == to {
			next[i] = w.word(v.From[which])
		}
	}
	w.at, w.has = to, next
}

// word answers what a source has.
func (w *walker) word(s api.Src) api.Word {
	switch s.Kind {
	case 1:
		return api.Word{Is: true, V: w.c.R[s.N]}
	case 2:
		return api.Word{Is: true, V: s.N}
	case 3:
		return w.came
	case 4:
		return w.has[s.N]
	}
	return api.Word{}
}

// walks goes along a run and the form of its function: at each instruction that does more than move the form must be at a node of its Op, whose Args are what the instruction's places have. It answers how many it met.
func walks(t *testing.T, f []api.Ins, x api.Form, c api.Case) int {
	t.Helper()
	w, s, met := &walker{x: x, c: c}, run.Begin(c), 0
	w.enter(-1, 0)
	for range c.Fuel {
		i := f[s.At]
		next, _, out, e := step.Do(f, s, c.Answers)
		if e != api.OK {
			t.Fatalf("%v: %d", f, e)
		}
		if !onlyMoves(i) {
			met++
			if w.at < 0 {
				t.Fatalf("%v, %v: a run comes to place %d, and the form leads nowhere:\n%s", f, c, s.At, text(x))
			}
			node := x.Nodes[w.at]
			if node.Op == 0 {
				if out.How != api.Undef {
					t.Fatalf("%v, %v: place %d is no end by nothing, and cut:\n%s", f, c, s.At, text(x))
				}
				return met
			}
			var args, there []api.Word
			for _, a := range node.Args {
				args = append(args, w.word(a))
			}
			for _, l := range needs(i) {
				there = append(there, s.L[l])
			}
			if node.Op != i.Op || node.Op == 15 && node.N != i.N || !slices.Equal(args, there) {
				t.Fatalf("%v, %v: place %d has %v, and node %d %v:\n%s", f, c, s.At, there, w.at, args, text(x))
			}
			if out.How == api.Runs {
				k := 0
				if i.Op == api.Zero && s.L[i.A].V != 0 {
					k = 1
				}
				w.came = next.L[i.D]
				w.enter(w.at, k)
			}
		}
		if out.How != api.Runs {
			return met
		}
		s = next
	}
	return met
}

// P13.1: a run does just what the form says, with what the form says: this is asked without any of the layers of which forms are made.
func TestRunsGoAsFormsSay(t *testing.T) {
	met := 0
	each(t, func(f []api.Ins) {
		x := formOf(t, f)
		for _, c := range cases() {
			met += walks(t, f, x, c)
		}
	})
	if met < 20000 {
		t.Errorf("no more than %d nodes were met", met)
	}
}
