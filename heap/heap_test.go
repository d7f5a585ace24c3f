package heap_test

import (
	"math"
	"slices"
	"testing"

	"joinery/api"
	"joinery/heap"
)

// row answers words of which no two are the same, and none is 0.
func row(n int) []int64 {
	var l []int64
	for i := range n {
		l = append(l, int64(100+7*i))
	}
	return l
}

// heaps are of each length that a heap may have, with words of all kinds.
func heaps() [][]int64 {
	l := [][]int64{
		nil, {}, {0}, {-1}, {math.MinInt64}, {5, 6}, {0, 0, 0}, {1, 1}, {2, 1, 0},
		{math.MinInt64, math.MaxInt64, 0, -1, 1 << 32}, make([]int64, api.MaxHeap),
	}
	for n := range api.MaxHeap + 1 {
		l = append(l, row(n))
	}
	return l
}

// tooLong are rows that are no heaps.
func tooLong() [][]int64 {
	l := [][]int64{make([]int64, api.MaxHeap+1), make([]int64, 256+api.MaxHeap)}
	for _, n := range []int{17, 18, 19, 31, 32, 33, 255, 256, 257, 1000, 1 << 16, 1<<16 + 1} {
		l = append(l, row(n))
	}
	return l
}

// outside are numbers that no word of any heap has.
func outside() []int64 {
	return []int64{
		-1, -2, -15, -16, -17, math.MinInt64, math.MinInt64 + 1, math.MaxInt64, math.MaxInt64 - 1,
		16, 17, 255, 256, 257, 1 << 16, 1 << 31, 1<<31 - 1, 1 << 32, 1<<32 + 1, -1 << 31, -1 << 32, 1 << 40, 1 << 62,
	}
}

// values are numbers to store.
func values() []int64 {
	return []int64{0, 1, -1, 9, 107, 1 << 32, math.MinInt64, math.MaxInt64}
}

// wantStored is the heap with another word, put together of three pieces.
func wantStored(h []int64, at int, v int64) []int64 {
	return slices.Concat(h[:at], []int64{v}, h[at+1:])
}

// stored answers what Store does where there is such a word.
func stored(t *testing.T, h []int64, at int, v int64) []int64 {
	t.Helper()
	k, how := heap.Store(h, int64(at), v)
	if how != api.Runs {
		t.Fatalf("Store(%v, %d, %d): %d", h, at, v, how)
	}
	return k
}

// loadsOut: Load tells 0 and Out.
func loadsOut(t *testing.T, h []int64, at int64) {
	t.Helper()
	if v, how := heap.Load(h, at); v != 0 || how != 4 {
		t.Errorf("Load of %d words at %d: %d, %d", len(h), at, v, how)
	}
}

// storesOut: Store tells none and Out.
func storesOut(t *testing.T, h []int64, at, v int64) {
	t.Helper()
	if k, how := heap.Store(h, at, v); len(k) != 0 || cap(k) != 0 || how != 4 {
		t.Errorf("Store of %d words, of %d at %d: %v, %d", len(h), v, at, k, how)
	}
}

// P6.1: nil, none, one, as many as may be, and one more.
func TestRight(t *testing.T) {
	for _, c := range []struct {
		h    []int64
		want bool
	}{
		{nil, true}, {[]int64{}, true}, {[]int64{0}, true}, {[]int64{math.MinInt64}, true}, {[]int64{math.MaxInt64, -1}, true},
		{make([]int64, 15), true}, {make([]int64, 16), true}, {row(16), true},
		{make([]int64, 17), false}, {row(17), false}, {make([]int64, 18), false}, {make([]int64, 256), false}, {make([]int64, 1<<20), false},
	} {
		if got := heap.Right(c.h); got != c.want {
			t.Errorf("Right of %d words: %v", len(c.h), got)
		}
	}
	for _, h := range heaps() {
		if !heap.Right(h) {
			t.Errorf("Right(%v): false", h)
		}
	}
	for _, h := range tooLong() {
		if heap.Right(h) {
			t.Errorf("Right of %d words: true", len(h))
		}
	}
}

// P6.1: words count, room behind them doesn't.
func TestSpareRoomIsNoWord(t *testing.T) {
	long := row(40)
	for n := range 17 {
		h := long[:n]
		if !heap.Right(h) {
			t.Errorf("Right of %d words with room behind: false", n)
		}
		loadsOut(t, h, int64(n))
		storesOut(t, h, int64(n), 1)
		if !heap.Same(h, row(n)) || heap.Same(h, long[:n+1]) {
			t.Errorf("Same of %d words with room behind", n)
		}
	}
	if heap.Right(long[:17]) {
		t.Error("Right of 17 words with room behind: true")
	}
}

// The chapter's example.
func TestExample(t *testing.T) {
	h := []int64{5, 6}
	if v, how := heap.Load(h, 1); v != 6 || how != api.Runs {
		t.Errorf("Load at 1: %d, %d", v, how)
	}
	if v, how := heap.Load(h, 2); v != 0 || how != api.Out {
		t.Errorf("Load at 2: %d, %d", v, how)
	}
	if k, how := heap.Store(h, 0, 9); !slices.Equal(k, []int64{9, 6}) || how != api.Runs {
		t.Errorf("Store of 9 at 0: %v, %d", k, how)
	}
}

// P6.1: the first word, one in the middle and the last, written out.
func TestLoadOfSome(t *testing.T) {
	h := []int64{math.MinInt64, -3, 0, 4, math.MaxInt64}
	for _, c := range []struct{ at, want int64 }{{0, math.MinInt64}, {1, -3}, {2, 0}, {3, 4}, {4, math.MaxInt64}} {
		if v, how := heap.Load(h, c.at); v != c.want || how != 0 {
			t.Errorf("Load at %d: %d, %d", c.at, v, how)
		}
	}
	full := []int64{1, 2, 3, 4, 5, 6, 7, 8, 9, 10, 11, 12, 13, 14, 15, 16}
	for at := range int64(16) {
		if v, how := heap.Load(full, at); v != at+1 || how != 0 {
			t.Errorf("Load of a full heap at %d: %d, %d", at, v, how)
		}
	}
}

// P6.1: each word of each heap.
func TestLoad(t *testing.T) {
	for _, h := range heaps() {
		for at, want := range h {
			if v, how := heap.Load(h, int64(at)); v != want || how != api.Runs {
				t.Errorf("Load(%v, %d): %d, %d", h, at, v, how)
			}
		}
	}
}

// P6.1: each word of each heap, by each number; all others stay (P6.2).
func TestStore(t *testing.T) {
	for _, h := range heaps() {
		for at := range h {
			for _, v := range values() {
				if k, how := heap.Store(h, int64(at), v); !slices.Equal(k, wantStored(h, at, v)) || how != api.Runs {
					t.Errorf("Store(%v, %d, %d): %v, %d", h, at, v, k, how)
				}
			}
		}
	}
}

// P6.1: the first word, one in the middle and the last, written out.
func TestStoreOfSome(t *testing.T) {
	for _, c := range []struct {
		h     []int64
		at, v int64
		want  []int64
	}{
		{[]int64{1}, 0, 2, []int64{2}},
		{[]int64{1, 2, 3}, 0, math.MinInt64, []int64{math.MinInt64, 2, 3}},
		{[]int64{1, 2, 3}, 1, 0, []int64{1, 0, 3}},
		{[]int64{1, 2, 3}, 2, math.MaxInt64, []int64{1, 2, math.MaxInt64}},
		{[]int64{1, 2, 3, 4, 5, 6, 7, 8, 9, 10, 11, 12, 13, 14, 15, 16}, 15, -1, []int64{1, 2, 3, 4, 5, 6, 7, 8, 9, 10, 11, 12, 13, 14, 15, -1}},
	} {
		if k, how := heap.Store(c.h, c.at, c.v); !slices.Equal(k, c.want) || how != 0 {
			t.Errorf("Store(%v, %d, %d): %v, %d", c.h, c.at, c.v, k, how)
		}
	}
}

// P6.1: no such word: just behind the last, below 0, and far off; of heaps without a word at all numbers.
func TestNoSuchWord(t *testing.T) {
	for _, h := range heaps() {
		ats := outside()
		for at := len(h); at < 20; at++ {
			ats = append(ats, int64(at))
		}
		for _, at := range ats {
			loadsOut(t, h, at)
			for _, v := range values() {
				storesOut(t, h, at, v)
			}
		}
	}
}

// P6.1: of what isn't a heap no word is loaded and none is stored, also where the row has one.
func TestNoHeap(t *testing.T) {
	for _, h := range tooLong() {
		ats := append(outside(), 0, 1, 8, 15, 16, 17, int64(len(h)/2), int64(len(h)-1), int64(len(h)))
		for _, at := range ats {
			loadsOut(t, h, at)
			storesOut(t, h, at, 9)
			storesOut(t, h, at, 0)
		}
	}
}

// P6.1: unlike lengths, of rows that begin alike, up to those that are no heaps.
func TestSameOfLengths(t *testing.T) {
	for m := range 40 {
		for n := range 40 {
			if got := heap.Same(row(m), row(n)); got != (m == n) {
				t.Errorf("Same of %d words and %d: %v", m, n, got)
			}
			if got := heap.Same(make([]int64, m), make([]int64, n)); got != (m == n) {
				t.Errorf("Same of %d noughts and %d: %v", m, n, got)
			}
		}
	}
}

// P6.1: rows that differ at one word, wherever it is, on either side; rows longer than a heap, too.
func TestSameOfOneOther(t *testing.T) {
	for _, n := range []int{1, 2, 3, 15, 16, 17, 18, 40, 300} {
		for at := range n {
			for _, v := range []int64{0, -1, math.MinInt64, math.MaxInt64, row(n)[at] + 1, row(n)[at] + 1<<32, -row(n)[at]} {
				other := wantStored(row(n), at, v)
				if heap.Same(row(n), other) || heap.Same(other, row(n)) {
					t.Errorf("Same of %d words, of which number %d is %d in one: true", n, at, v)
				}
				if !heap.Same(other, slices.Clone(other)) {
					t.Errorf("Same of %v and its like: false", other)
				}
			}
		}
	}
}

// P6.1: nil and an empty row are the same, and unlike any other.
func TestSameOfNone(t *testing.T) {
	none := [][]int64{nil, {}, make([]int64, 0, 9), row(3)[:0]}
	for _, a := range none {
		for _, b := range none {
			if !heap.Same(a, b) {
				t.Errorf("Same(%#v, %#v): false", a, b)
			}
		}
		for _, b := range [][]int64{{0}, row(1), row(16), row(17)} {
			if heap.Same(a, b) || heap.Same(b, a) {
				t.Errorf("Same of none and %v: true", b)
			}
		}
	}
}

// P6.1: words count by their order, and a row is the same as itself.
func TestSameOfOrders(t *testing.T) {
	if heap.Same([]int64{1, 2}, []int64{2, 1}) || heap.Same([]int64{1, 1, 2}, []int64{1, 2, 2}) || heap.Same([]int64{1, 2, 3}, []int64{3, 2, 1}) {
		t.Error("Same of other orders: true")
	}
	for _, h := range slices.Concat(heaps(), tooLong()) {
		if !heap.Same(h, h) || !heap.Same(h, slices.Clone(h)) {
			t.Errorf("Same of %d words and themselves: false", len(h))
		}
	}
	all := slices.Concat(heaps(), tooLong())
	for _, a := range all {
		for _, b := range all {
			if got := heap.Same(a, b); got != slices.Equal(a, b) {
				t.Errorf("Same of %d words and %d: %v", len(a), len(b), got)
			}
		}
	}
}

// P6.2: what was stored is loaded, and all other words are as they were.
func TestStoredIsLoaded(t *testing.T) {
	for _, h := range heaps() {
		for at := range h {
			for _, v := range values() {
				k := stored(t, h, at, v)
				if !heap.Right(k) || len(k) != len(h) {
					t.Fatalf("Store(%v, %d, %d): %v", h, at, v, k)
				}
				for i := range h {
					want := h[i]
					if i == at {
						want = v
					}
					if got, how := heap.Load(k, int64(i)); got != want || how != api.Runs {
						t.Errorf("Load at %d behind a Store(%v, %d, %d): %d, %d", i, h, at, v, got, how)
					}
				}
				loadsOut(t, k, int64(len(h)))
				loadsOut(t, k, -1)
			}
		}
	}
}

// P6.3: to store twice at one place is as to store the second alone.
func TestStoreAgain(t *testing.T) {
	for _, h := range heaps() {
		for at := range h {
			for _, v := range values() {
				for _, w := range values() {
					twice, once := stored(t, stored(t, h, at, v), at, w), stored(t, h, at, w)
					if !heap.Same(twice, once) || !slices.Equal(twice, once) {
						t.Errorf("Store of %d, then of %d, at %d of %v: %v; not %v", v, w, at, h, twice, once)
					}
				}
			}
		}
	}
}

// P6.3: at two places, in either order.
func TestStoreInEitherOrder(t *testing.T) {
	for _, h := range heaps() {
		for at := range h {
			for other := range h {
				if at == other {
					continue
				}
				for i, v := range values() {
					w := values()[(i+3)%len(values())]
					one := stored(t, stored(t, h, at, v), other, w)
					two := stored(t, stored(t, h, other, w), at, v)
					want := wantStored(wantStored(h, at, v), other, w)
					if !heap.Same(one, two) || !slices.Equal(one, two) || !slices.Equal(one, want) {
						t.Errorf("Store of %d at %d and of %d at %d of %v: %v, %v", v, at, w, other, h, one, two)
					}
				}
			}
		}
	}
}

// P6.1, P6.2: to store what is there changes nothing, but the answer is new memory all the same (R3).
func TestStoreWhatIsThere(t *testing.T) {
	for _, h := range heaps() {
		for at, v := range h {
			k := stored(t, h, at, v)
			if !heap.Same(k, h) || !slices.Equal(k, h) {
				t.Errorf("Store of what is at %d of %v: %v", at, h, k)
			}
			if &k[0] == &h[0] {
				t.Errorf("Store of what is at %d of %v answers the argument's memory", at, h)
			}
		}
	}
}

// R3: what is handed in stays, the words ahead of it and behind it, too, whatever the call tells.
func TestArgumentsStay(t *testing.T) {
	for n := range 20 {
		whole := row(60)
		h := whole[10 : 10+n]
		for _, at := range append(outside(), 0, 1, int64(n)/2, int64(n)-1, int64(n), int64(n)+1) {
			for _, v := range values() {
				heap.Right(h)
				heap.Load(h, at)
				heap.Store(h, at, v)
				heap.Same(h, whole)
				heap.Same(whole[9:9+n], h)
				if !slices.Equal(whole, row(60)) {
					t.Fatalf("an argument of %d words was changed at %d: %v", n, at, whole)
				}
			}
		}
	}
}

// R3: neither an argument nor another answer shares memory with what Store answers, its spare room included.
func TestAnswersAreNew(t *testing.T) {
	for n := 1; n <= 16; n++ {
		for at := range n {
			whole := row(60)
			h := whole[10 : 10+n]
			k, again := stored(t, h, at, 9), stored(t, h, at, 9)
			want := wantStored(row(60)[10:10+n], at, 9)
			room := k[:cap(k)]
			for i := range room {
				room[i] = -5
			}
			k = append(k, -6, -7)
			if !slices.Equal(whole, row(60)) || !slices.Equal(again, want) {
				t.Fatalf("Store at %d of %d words shares memory: %v, %v", at, n, whole, again)
			}
			further := stored(t, again, at, 8)
			again[0], again[n-1] = -8, -8
			if !slices.Equal(further, wantStored(want, at, 8)) || &further[0] == &k[0] {
				t.Fatalf("Store at %d of an answer of %d words shares memory: %v", at, n, further)
			}
		}
	}
}

// R3: an argument isn't kept: what becomes of it later isn't seen in an answer.
func TestArgumentsAreNotKept(t *testing.T) {
	h := row(16)
	k := stored(t, h, 3, 9)
	clear(h)
	if !slices.Equal(k, wantStored(row(16), 3, 9)) {
		t.Errorf("an answer, its argument changed: %v", k)
	}
	if v, how := heap.Load(h, 3); v != 0 || how != api.Runs || heap.Same(h, row(16)) {
		t.Errorf("Load of a changed row: %d, %d", v, how)
	}
}

// R1: no call panics, whatever the row and the number.
func TestNoPanic(t *testing.T) {
	rows := slices.Concat(heaps(), tooLong())
	ask := func(h []int64, at int64) {
		defer func() {
			if p := recover(); p != nil {
				t.Errorf("of %d words at %d: %v", len(h), at, p)
			}
		}()
		heap.Right(h)
		heap.Load(h, at)
		heap.Store(h, at, at)
		for _, other := range rows {
			heap.Same(h, other)
		}
	}
	for _, h := range rows {
		for _, at := range append(outside(), 0, 1, 7, 15, int64(len(h)), int64(len(h)-1), int64(len(h)+1)) {
			ask(h, at)
		}
	}
}

// R4: the same answers, whatever was asked between.
func TestSameAnswerAgain(t *testing.T) {
	rows := slices.Concat(heaps(), tooLong()[:4])
	ask := func(h []int64) []int64 {
		var l []int64
		for at := int64(-2); at < 20; at++ {
			v, how := heap.Load(h, at)
			k, stands := heap.Store(h, at, 9)
			l = append(append(l, v, int64(how), int64(stands)), k...)
		}
		for _, other := range rows {
			if heap.Same(h, other) {
				l = append(l, 1)
			}
		}
		if heap.Right(h) {
			l = append(l, 2)
		}
		return l
	}
	var once [][]int64
	for _, h := range rows {
		once = append(once, ask(h))
	}
	for i := len(rows) - 1; i >= 0; i-- {
		if !slices.Equal(ask(rows[i]), once[i]) {
			t.Errorf("other answers of row %d, asked again", i)
		}
	}
}
