package env_test

import (
	"math"
	"slices"
	"testing"

	"joinery/api"
	"joinery/env"
)

// Kinds of sources that are none of the two, though all have the method.
type (
	other     struct{ Loc int }
	renamed   env.Was
	number    int64
	holdsWas  struct{ env.Was }
	holdsIs   struct{ env.Is }
	holdsAny  struct{ env.Source }
	unlike    []int // two of them can't be held against one another
	panicking struct{}
)

func (other) Text() string     { return "r0" }
func (renamed) Text() string   { return "r0" }
func (number) Text() string    { return "5" }
func (unlike) Text() string    { return "" }
func (panicking) Text() string { panic("nobody asks for this text") }

// badSources are those with which no table is good.
func badSources() []env.Source {
	return []env.Source{
		nil,
		env.Was{Loc: -1}, env.Was{Loc: api.Locs}, env.Was{Loc: math.MinInt}, env.Was{Loc: math.MaxInt},
		env.Was{Loc: -2}, env.Was{Loc: -api.Locs}, env.Was{Loc: api.Locs + 1}, env.Was{Loc: 256}, env.Was{Loc: 1 << 32}, env.Was{Loc: math.MinInt + 1},
		&env.Was{}, &env.Was{Loc: 23}, &env.Was{Loc: -1}, &env.Is{}, &env.Is{N: 5}, (*env.Was)(nil), (*env.Is)(nil),
		other{}, other{Loc: 3}, &other{}, (*other)(nil), renamed{}, renamed{Loc: 7}, number(5),
		holdsWas{env.Was{Loc: 1}}, holdsIs{env.Is{N: 1}}, holdsAny{env.Was{Loc: 1}}, holdsAny{}, &holdsAny{}, (*holdsAny)(nil),
		unlike{}, unlike{1}, unlike(nil), panicking{}, &panicking{},
	}
}

// first is the first table, written out.
func first() env.Table {
	return env.Table{
		env.Was{Loc: 0}, env.Was{Loc: 1}, env.Was{Loc: 2}, env.Was{Loc: 3}, env.Was{Loc: 4}, env.Was{Loc: 5}, env.Was{Loc: 6}, env.Was{Loc: 7},
		env.Was{Loc: 8}, env.Was{Loc: 9}, env.Was{Loc: 10}, env.Was{Loc: 11}, env.Was{Loc: 12}, env.Was{Loc: 13}, env.Was{Loc: 14}, env.Was{Loc: 15},
		env.Was{Loc: 16}, env.Was{Loc: 17}, env.Was{Loc: 18}, env.Was{Loc: 19}, env.Was{Loc: 20}, env.Was{Loc: 21}, env.Was{Loc: 22}, env.Was{Loc: 23},
	}
}

// by answers the table whose sources a function tells.
func by(source func(l int) env.Source) env.Table {
	var t env.Table
	for l := range 24 {
		t[l] = source(l)
	}
	return t
}

// goodTables are good, and no two of them are the same.
func goodTables() []env.Table {
	l := []env.Table{
		first(),
		by(func(l int) env.Source { return env.Was{Loc: 23 - l} }),
		by(func(l int) env.Source { return env.Was{Loc: (l + 1) % 24} }),
		by(func(l int) env.Source { return env.Was{Loc: l / 2} }),
		by(func(l int) env.Source { return env.Was{Loc: l * 7 % 24} }),
		by(func(l int) env.Source { return env.Was{Loc: 0} }),
		by(func(l int) env.Source { return env.Was{Loc: 23} }),
		by(func(l int) env.Source { return env.Is{N: int64(l)} }),
		by(func(l int) env.Source { return env.Is{N: 100 + int64(l)} }),
		by(func(l int) env.Source { return env.Is{} }),
		by(func(l int) env.Source { return env.Is{N: math.MinInt64 + int64(l)} }),
		by(func(l int) env.Source { return env.Is{N: math.MaxInt64 - int64(l)} }),
	}
	for part := range 4 {
		l = append(l, by(func(l int) env.Source {
			if l%4 == part {
				return env.Is{N: int64(l * -1000)}
			}
			return env.Was{Loc: (l*5 + part) % 24}
		}))
	}
	for _, at := range []int{0, 7, 8, 23} {
		l = append(l, by(func(l int) env.Source {
			if l == at {
				return env.Is{N: -1}
			}
			return env.Was{Loc: l}
		}))
	}
	return l
}

// badTables aren't good: one source of some tables is none, at each place in turn; and some where many are.
func badTables() []env.Table {
	var l []env.Table
	for _, s := range badSources() {
		for _, t := range goodTables()[:9] {
			for at := range t {
				bad := t
				bad[at] = s
				l = append(l, bad)
			}
		}
		l = append(l, by(func(l int) env.Source { return s }))
		l = append(l, by(func(l int) env.Source {
			if l == 0 || l == 23 {
				return s
			}
			return env.Is{N: int64(l)}
		}))
	}
	return append(l, env.Table{})
}

// someBad are fewer of these: each source at the first place, in the middle and at the last.
func someBad() []env.Table {
	var l []env.Table
	for _, s := range badSources() {
		for _, t := range goodTables()[7:9] {
			for _, at := range []int{0, 7, 8, 12, 23} {
				bad := t
				bad[at] = s
				l = append(l, bad)
			}
		}
	}
	return append(l, env.Table{})
}

// edges are numbers that are no place of the machine.
func edges() []int {
	return []int{-1, api.Locs, math.MinInt, math.MaxInt, -2, 25, 256, 1 << 32, math.MinInt32}
}

// wantAfter is what the chapter says to be behind an instruction, of a table that is good.
func wantAfter(t env.Table, x api.Ins) env.Table {
	if x.D < 0 || x.D > 23 || x.A < 0 || x.A > 23 {
		return t
	}
	d, a := t[x.D], t[x.A]
	switch x.Op {
	case 1:
		t[x.D] = env.Is{N: x.N}
	case 2:
		t[x.D] = a
	case 3:
		t[x.A] = d
		t[x.D] = a
	}
	return t
}

// does is what an instruction that moves makes of words, as the machine does it.
func does(l [24]api.Word, x api.Ins) [24]api.Word {
	if x.D < 0 || x.D > 23 || x.A < 0 || x.A > 23 {
		return l
	}
	d, a := l[x.D], l[x.A]
	switch x.Op {
	case 1:
		l[x.D] = api.Word{Is: true, V: x.N}
	case 2:
		l[x.D] = a
	case 3:
		l[x.A] = d
		l[x.D] = a
	}
	return l
}

// wantThen is what the chapter says of two tables that are good, one behind the other.
func wantThen(a, b env.Table) env.Table {
	return by(func(l int) env.Source {
		for from := range 24 {
			if b[l] == env.Source(env.Was{Loc: from}) {
				return a[from]
			}
		}
		return b[l]
	})
}

// wantFill is P5.2's Fill of a table that is good.
func wantFill(t env.Table, l [24]api.Word) [24]api.Word {
	var w [24]api.Word
	for at, s := range t {
		if is, ok := s.(env.Is); ok {
			w[at] = api.Word{Is: true, V: is.N}
			continue
		}
		w[at] = l[s.(env.Was).Loc]
	}
	return w
}

// words are what places may have at the beginning: numbers, nothing, and both.
func words() [][24]api.Word {
	var all, some, regs, ends, odd [24]api.Word
	for l := range 24 {
		all[l] = api.Word{Is: true, V: int64(1000 + l)}
		odd[l] = api.Word{Is: l%3 == 0, V: int64(-l)}
		if l%2 == 0 {
			some[l] = api.Word{Is: true, V: int64(l)}
			ends[l] = api.Word{Is: true, V: math.MinInt64 + int64(l)}
		} else {
			ends[l] = api.Word{Is: true, V: math.MaxInt64 - int64(l)}
		}
		if l < 8 {
			regs[l] = api.Word{Is: true, V: int64(7 * l)}
		}
	}
	return [][24]api.Word{{}, all, some, regs, ends, odd}
}

// instructions are of each op and of ops that are none, with all kinds of places, right ones and others.
func instructions() []api.Ins {
	var l []api.Ins
	places := append([]int{0, 1, 7, 8, 22, 23}, edges()...)
	for _, op := range append([]int{math.MinInt, math.MaxInt, -3, -2, -1, 256 + api.Const, 1<<32 + api.Mov}, numbers(0, 22)...) {
		for _, d := range places {
			for _, a := range places {
				l = append(l, api.Ins{Op: op, D: d, A: a, B: 3, N: int64(50*d + a), To: 1})
			}
		}
	}
	return l
}

// numbers answers those from one on, up to another.
func numbers(from, to int) []int {
	var l []int
	for n := from; n <= to; n++ {
		l = append(l, n)
	}
	return l
}

// P5.1: each place's source, and that what comes is new each time.
func TestNew(t *testing.T) {
	got := env.New()
	if len(got) != 24 {
		t.Fatalf("New has %d places", len(got))
	}
	for l, s := range got {
		if w, ok := s.(env.Was); !ok || w.Loc != l {
			t.Errorf("New's place %d: %#v", l, s)
		}
	}
	if !env.Good(got) || got != first() {
		t.Errorf("New: %v", got)
	}
	clear(got[:])
	if env.New() != first() {
		t.Errorf("New, once more: %v", env.New())
	}
}

// P5.1: tables that are good: each Was of a place and each Is, at each place.
func TestGood(t *testing.T) {
	for i, x := range goodTables() {
		if !env.Good(x) {
			t.Errorf("Good of table %d: false", i)
		}
	}
	for at := range 24 {
		sources := []env.Source{env.Is{}, env.Is{N: -1}, env.Is{N: 24}, env.Is{N: math.MinInt64}, env.Is{N: math.MaxInt64}}
		for l := range 24 {
			sources = append(sources, env.Was{Loc: l})
		}
		for _, s := range sources {
			x := first()
			x[at] = s
			if !env.Good(x) {
				t.Errorf("Good with %#v at %d: false", s, at)
			}
		}
	}
}

// P5.1, R1: tables that aren't good.
func TestGoodOfOthers(t *testing.T) {
	for _, s := range badSources() {
		for _, good := range goodTables() {
			for at := range good {
				x := good
				x[at] = s
				if env.Good(x) {
					t.Errorf("Good with %#v at %d: true", s, at)
				}
			}
		}
	}
	for i, x := range badTables() {
		if env.Good(x) {
			t.Errorf("Good of bad table %d: true", i)
		}
	}
}

// P5.1: the table behind each instruction, of each table.
func TestAfter(t *testing.T) {
	for i, x := range goodTables() {
		for _, in := range instructions() {
			if got := env.After(x, in); got != wantAfter(x, in) {
				t.Errorf("After of table %d and %+v: %v", i, in, got)
			}
		}
	}
}

// P5.1: each pair of places, of each op that moves numbers; what isn't named stays.
func TestAfterOfAllPlaces(t *testing.T) {
	for _, x := range goodTables() {
		for d := range 24 {
			for a := range 24 {
				set, mov, swap := x, x, x
				set[d] = env.Is{N: -9}
				mov[d] = x[a]
				swap[d], swap[a] = x[a], x[d]
				if got := env.After(x, api.Ins{Op: api.Const, D: d, A: a, N: -9}); got != set {
					t.Errorf("After of a Const of %d: %v", d, got)
				}
				if got := env.After(x, api.Ins{Op: api.Mov, D: d, A: a}); got != mov {
					t.Errorf("After of a Mov of %d and %d: %v", d, a, got)
				}
				if got := env.After(x, api.Ins{Op: api.Swap, D: d, A: a}); got != swap {
					t.Errorf("After of a Swap of %d and %d: %v", d, a, got)
				}
			}
			if got := env.After(x, api.Ins{Op: api.Swap, D: d, A: d}); got != x {
				t.Errorf("After of a Swap of %d with itself: %v", d, got)
			}
			if got := env.After(x, api.Ins{Op: api.Mov, D: d, A: d}); got != x {
				t.Errorf("After of a Mov of %d to itself: %v", d, got)
			}
		}
	}
}

// P5.1: of all other ops, and of ops that are none, the table is as it was.
func TestAfterOfOtherOps(t *testing.T) {
	ops := append(numbers(api.Add, api.Ret), 0, -1, -2, -3, 19, 20, 257, 258, 259, 1<<32+1, 1<<32+2, math.MinInt, math.MaxInt, math.MinInt32, math.MaxInt32)
	for i, x := range goodTables() {
		for _, op := range ops {
			for _, in := range []api.Ins{{Op: op}, {Op: op, D: 1, A: 2, B: 3}, {Op: op, D: 9, A: 23, N: 7, To: 3}, {Op: op, D: -1, A: 24, B: -1, N: -1, To: -1}} {
				if got := env.After(x, in); got != x {
					t.Errorf("After of table %d and %+v: %v", i, in, got)
				}
			}
		}
	}
}

// P5.1: where D or A is no place of the machine, each alone and both: the table is as it was, of a Const too.
func TestAfterOfNoPlace(t *testing.T) {
	for i, x := range goodTables() {
		for _, op := range []int{api.Const, api.Mov, api.Swap} {
			for _, no := range edges() {
				for l := range 24 {
					for _, in := range []api.Ins{{Op: op, D: no, A: l, N: 5}, {Op: op, D: l, A: no, N: 5}} {
						if got := env.After(x, in); got != x {
							t.Errorf("After of table %d and %+v: %v", i, in, got)
						}
					}
				}
				for _, none := range edges() {
					in := api.Ins{Op: op, D: no, A: none, N: 5}
					if got := env.After(x, in); got != x {
						t.Errorf("After of table %d and %+v: %v", i, in, got)
					}
				}
			}
		}
	}
}

// P5.1: B and To are not looked at, N of a Const alone; a Const's number may be any.
func TestAfterOfOtherFields(t *testing.T) {
	for i, x := range goodTables() {
		for _, op := range []int{api.Const, api.Mov, api.Swap} {
			for _, v := range append(edges(), 0, 5) {
				for _, n := range []int64{0, 1, -1, 24, math.MinInt64, math.MaxInt64, 1 << 32} {
					in := api.Ins{Op: op, D: 8, A: 2, B: v, N: n, To: v}
					if got := env.After(x, in); got != wantAfter(x, in) {
						t.Errorf("After of table %d and %+v: %v", i, in, got)
					}
				}
			}
		}
	}
}

// The chapter's example, and the fourth of the whole.
func TestExample(t *testing.T) {
	x := env.New()
	for _, in := range []api.Ins{{Op: api.Mov, D: 8, A: 1}, {Op: api.Const, D: 1, N: 5}, {Op: api.Swap, D: 8, A: 2}} {
		x = env.After(x, in)
	}
	want := first()
	want[8], want[1], want[2] = env.Was{Loc: 2}, env.Is{N: 5}, env.Was{Loc: 1}
	if x != want {
		t.Errorf("behind all three: %v", x)
	}
}

// P5.1: each good table behind each.
func TestThen(t *testing.T) {
	for i, a := range goodTables() {
		for j, b := range goodTables() {
			if got := env.Then(a, b); got != wantThen(a, b) {
				t.Errorf("Then of %d and %d: %v", i, j, got)
			}
		}
	}
}

// P5.1: one source in each of the two, written out: Was and Is, of the same place and of others.
func TestThenOfSingleSources(t *testing.T) {
	for _, c := range []struct {
		name    string
		a, b    map[int]env.Source
		at      int
		want    env.Source
		unmoved int
	}{
		{"Was of what was moved", map[int]env.Source{8: env.Was{Loc: 2}}, map[int]env.Source{4: env.Was{Loc: 8}}, 4, env.Was{Loc: 2}, 2},
		{"Was of a constant", map[int]env.Source{8: env.Is{N: 6}}, map[int]env.Source{4: env.Was{Loc: 8}}, 4, env.Is{N: 6}, 3},
		{"a constant over what was moved", map[int]env.Source{4: env.Was{Loc: 2}}, map[int]env.Source{4: env.Is{N: 6}}, 4, env.Is{N: 6}, 2},
		{"a constant over a constant", map[int]env.Source{4: env.Is{N: 7}}, map[int]env.Source{4: env.Is{N: 6}}, 4, env.Is{N: 6}, 2},
		{"a constant that is a place's number", map[int]env.Source{8: env.Was{Loc: 3}}, map[int]env.Source{4: env.Is{N: 8}}, 4, env.Is{N: 8}, 5},
		{"Was of a constant that is a place's number", map[int]env.Source{8: env.Is{N: 9}, 9: env.Is{N: 1}}, map[int]env.Source{4: env.Was{Loc: 8}}, 4, env.Is{N: 9}, 10},
		{"the first one alone", map[int]env.Source{0: env.Was{Loc: 23}}, nil, 0, env.Was{Loc: 23}, 23},
		{"the second one alone", nil, map[int]env.Source{23: env.Was{Loc: 0}}, 23, env.Was{Loc: 0}, 0},
		{"there and back", map[int]env.Source{1: env.Was{Loc: 9}, 9: env.Was{Loc: 1}}, map[int]env.Source{1: env.Was{Loc: 9}, 9: env.Was{Loc: 1}}, 1, env.Was{Loc: 1}, 9},
		{"one further, not two", map[int]env.Source{1: env.Was{Loc: 2}, 2: env.Was{Loc: 3}}, map[int]env.Source{0: env.Was{Loc: 1}}, 0, env.Was{Loc: 2}, 3},
	} {
		a, b := first(), first()
		for l, s := range c.a {
			a[l] = s
		}
		for l, s := range c.b {
			b[l] = s
		}
		got := env.Then(a, b)
		if got[c.at] != c.want || got[c.unmoved] != first()[c.unmoved] {
			t.Errorf("%s: %v", c.name, got)
		}
	}
}

// P5.1, P5.2, R1: New() stands in the place of a table that isn't good: of the one argument, of the first, of the second, and of both.
func TestNewStandsIn(t *testing.T) {
	some := []api.Ins{{}, {Op: api.Const, D: 3, N: 5}, {Op: api.Const, D: 23, N: -5}, {Op: api.Mov, D: 8, A: 1}, {Op: api.Mov, D: 0, A: 23}, {Op: api.Swap, D: 8, A: 2}, {Op: api.Swap, A: -1}, {Op: api.Const, A: 24}, {Op: api.Mov, D: -1}, {Op: api.Jump, To: 3}, {Op: api.Ret}, {Op: 99}}
	for i, bad := range badTables() {
		for _, in := range some {
			if got := env.After(bad, in); got != wantAfter(first(), in) {
				t.Errorf("After of bad table %d and %+v: %v", i, in, got)
			}
		}
		for _, w := range words() {
			if got := env.Fill(bad, w); got != w {
				t.Errorf("Fill of bad table %d: %v", i, got)
			}
		}
		for _, x := range goodTables() {
			if got := env.Then(bad, x); got != x {
				t.Errorf("Then of bad table %d and a good one: %v", i, got)
			}
			if got := env.Then(x, bad); got != x {
				t.Errorf("Then of a good one and bad table %d: %v", i, got)
			}
		}
		if got := env.Then(bad, bad); got != first() {
			t.Errorf("Then of bad table %d twice: %v", i, got)
		}
	}
	for i, a := range someBad() {
		for j, b := range someBad() {
			if got := env.Then(a, b); got != first() {
				t.Errorf("Then of bad tables %d and %d: %v", i, j, got)
			}
		}
	}
}

// P5.1: what comes of good tables and of others is good.
func TestAnswersAreGood(t *testing.T) {
	for _, x := range slices.Concat(goodTables(), someBad()) {
		for _, in := range instructions() {
			if !env.Good(env.After(x, in)) {
				t.Errorf("After(%v, %+v) isn't good", x, in)
			}
		}
		for _, y := range goodTables() {
			if !env.Good(env.Then(x, y)) || !env.Good(env.Then(y, x)) {
				t.Errorf("Then of %v and %v isn't good", x, y)
			}
		}
	}
}

// P5.2: each table with each row of words.
func TestFill(t *testing.T) {
	for i, x := range goodTables() {
		for j, w := range words() {
			if got := env.Fill(x, w); got != wantFill(x, w) {
				t.Errorf("Fill of table %d and words %d: %v", i, j, got)
			}
		}
	}
}

// P5.2: of one place after the other: a number that was elsewhere, nothing that was elsewhere, and a constant where nothing was.
func TestFillOfSinglePlaces(t *testing.T) {
	for at := range 24 {
		for from := range 24 {
			var none, one [24]api.Word
			one[from] = api.Word{Is: true, V: 77}
			x := by(func(int) env.Source { return env.Is{N: -3} })
			x[at] = env.Was{Loc: from}
			for _, l := range [][24]api.Word{none, one} {
				got := env.Fill(x, l)
				for place, w := range got {
					if place == at && w != l[from] || place != at && w != (api.Word{Is: true, V: -3}) {
						t.Errorf("Fill with Was of %d at %d: place %d has %v", from, at, place, w)
					}
				}
			}
		}
	}
}

// P5.2
func TestFillOfNumbers(t *testing.T) {
	for _, n := range []int64{0, 1, -1, 23, 24, math.MinInt64, math.MaxInt64, 1 << 32} {
		x := first()
		x[12] = env.Is{N: n}
		if got := env.Fill(x, [24]api.Word{}); got[12] != (api.Word{Is: true, V: n}) || got[11] != (api.Word{}) {
			t.Errorf("Fill with Is of %d: %v", n, got)
		}
	}
}

// P5.2: the texts of places of both kinds, of what is no place, and of numbers.
func TestText(t *testing.T) {
	places := []string{"r0", "r1", "r2", "r3", "r4", "r5", "r6", "r7", "s0", "s1", "s2", "s3", "s4", "s5", "s6", "s7", "s8", "s9", "s10", "s11", "s12", "s13", "s14", "s15"}
	for l, want := range places {
		if got := (env.Was{Loc: l}).Text(); got != want {
			t.Errorf("Text of Was %d: %q", l, got)
		}
		if got := env.New()[l].Text(); got != want {
			t.Errorf("Text of New's place %d: %q", l, got)
		}
	}
	for _, l := range edges() {
		if got := (env.Was{Loc: l}).Text(); got != "" {
			t.Errorf("Text of Was %d: %q", l, got)
		}
	}
	for n, want := range map[int64]string{0: "0", 1: "1", -1: "-1", 5: "5", 10: "10", 24: "24", -70: "-70", math.MinInt64: "-9223372036854775808", math.MaxInt64: "9223372036854775807"} {
		if got := (env.Is{N: n}).Text(); got != want {
			t.Errorf("Text of Is %d: %q", n, got)
		}
	}
}

// P5.3: of each instruction, each table, good and other, and each row of words.
func TestFillBehindAnInstruction(t *testing.T) {
	for _, x := range slices.Concat(goodTables(), someBad()[:20]) {
		for _, in := range instructions() {
			for _, w := range words() {
				if got := env.Fill(env.After(x, in), w); got != does(env.Fill(x, w), in) {
					t.Errorf("Fill behind %+v of %v: %v", in, x, got)
				}
			}
		}
	}
}

// moving are instructions of which rows are made.
func moving() []api.Ins {
	return []api.Ins{
		{Op: api.Const, D: 0, N: 5}, {Op: api.Const, D: 8, N: -5},
		{Op: api.Mov, D: 8, A: 0}, {Op: api.Mov, D: 0, A: 9}, {Op: api.Mov, D: 23, A: 8},
		{Op: api.Swap, D: 0, A: 8}, {Op: api.Swap, D: 9, A: 23}, {Op: api.Swap, D: 8, A: 8},
		{Op: api.Jump, To: 1}, {Op: api.Mov, D: 24, A: 0},
	}
}

// P5.3, P5.4: of all rows of four instructions: the table of all is what they do to words, one by one; and that of the first ones, and that of the rest behind it, wherever the row is cut.
func TestRows(t *testing.T) {
	w := words()[1]
	row := make([]api.Ins, 4)
	for n := range 10000 {
		for i, k := 0, n; i < 4; i, k = i+1, k/10 {
			row[i] = moving()[k%10]
		}
		whole, l := env.New(), w
		for _, in := range row {
			whole, l = env.After(whole, in), does(l, in)
		}
		if got := env.Fill(whole, w); got != l {
			t.Fatalf("Fill behind %v: %v; not %v", row, got, l)
		}
		for cut := range 5 {
			a, b := env.New(), env.New()
			for _, in := range row[:cut] {
				a = env.After(a, in)
			}
			for _, in := range row[cut:] {
				b = env.After(b, in)
			}
			if got := env.Then(a, b); got != whole {
				t.Fatalf("Then of %v, cut at %d: %v; not %v", row, cut, got, whole)
			}
		}
	}
}

// P5.4: of each two tables, good and other.
func TestFillOfTwo(t *testing.T) {
	all := slices.Concat(goodTables(), someBad()[:20])
	for _, a := range all {
		for _, b := range all {
			for _, w := range words() {
				if got := env.Fill(env.Then(a, b), w); got != env.Fill(b, env.Fill(a, w)) {
					t.Errorf("Fill of %v, %v: %v", a, b, got)
				}
			}
		}
	}
}

// P5.4: however three, or many, are put together.
func TestThenOfMany(t *testing.T) {
	all := slices.Concat(goodTables(), someBad()[:8])
	for _, a := range all {
		for _, b := range all {
			for _, c := range all {
				if env.Then(env.Then(a, b), c) != env.Then(a, env.Then(b, c)) {
					t.Errorf("Then of %v, %v, %v", a, b, c)
				}
			}
		}
	}
	movers := slices.Concat(goodTables()[1:5], goodTables()[12:14])
	ahead, behind := env.New(), env.New()
	for i := range movers {
		ahead = env.Then(ahead, movers[i])
		behind = env.Then(movers[len(movers)-1-i], behind)
	}
	if ahead != behind || ahead == first() {
		t.Errorf("Then of many: %v and %v", ahead, behind)
	}
}

// P5.5: of good tables; of others it is New() itself.
func TestThenOfNew(t *testing.T) {
	for i, x := range goodTables() {
		if got := env.Then(env.New(), x); got != x {
			t.Errorf("table %d behind New: %v", i, got)
		}
		if got := env.Then(x, env.New()); got != x {
			t.Errorf("New behind table %d: %v", i, got)
		}
	}
	for i, x := range badTables() {
		if env.Then(env.New(), x) != first() || env.Then(x, env.New()) != first() {
			t.Errorf("Then of New and bad table %d", i)
		}
	}
}

// R3: what is handed in stays as it is, what pointers lead to as well; and what is answered isn't that of the next call.
func TestArgumentsStay(t *testing.T) {
	for i, x := range goodTables() {
		for j, y := range goodTables() {
			for _, in := range moving() {
				a, b, w, was := x, y, words()[1], in
				behind, both, filled := env.After(a, in), env.Then(a, b), env.Fill(a, w)
				if a != x || b != y || w != words()[1] || in != was || !env.Good(a) {
					t.Fatalf("an argument of tables %d and %d was changed", i, j)
				}
				clear(behind[:])
				clear(both[:])
				clear(filled[:])
				if a != x || b != y || w != words()[1] {
					t.Fatalf("an answer of tables %d and %d is an argument's memory", i, j)
				}
			}
		}
	}
	was, is := env.Was{Loc: 3}, env.Is{N: 4}
	bad := first()
	bad[1], bad[2] = &was, &is
	kept := bad
	env.Good(bad)
	env.After(bad, api.Ins{Op: api.Swap, D: 1, A: 2})
	env.Then(bad, bad)
	env.Fill(bad, words()[1])
	if was != (env.Was{Loc: 3}) || is != (env.Is{N: 4}) || bad != kept {
		t.Errorf("a table with pointers was changed: %v, %v, %v", was, is, bad)
	}
}

// R4: the same answers, whatever was asked between.
func TestSameAnswerAgain(t *testing.T) {
	ask := func(a, b env.Table) []env.Table {
		var l []env.Table
		for _, in := range moving() {
			l = append(l, env.After(a, in))
		}
		return append(l, env.Then(a, b), env.Then(b, a), env.New())
	}
	tables := slices.Concat(goodTables(), someBad()[:8])
	var once [][]env.Table
	for _, a := range tables {
		once = append(once, ask(a, tables[0]))
	}
	for i := len(tables) - 1; i >= 0; i-- {
		if !slices.Equal(ask(tables[i], tables[0]), once[i]) {
			t.Errorf("other answers of table %d, asked again", i)
		}
	}
}
