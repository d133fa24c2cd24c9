package index_test

import (
	"cmp"
	"math"
	"slices"
	"testing"

	"marl/api"
	. "marl/index"
)

// walk is a file's pointers gone down plainly; every block comes to see once.
func walk(see func(n, level, first, count int, p Path)) {
	var down func(level, first int, p Path)
	down = func(level, first int, p Path) {
		if first >= api.MaxFile {
			return
		}
		if level == 0 {
			see(first, 0, first, 1, p)
			return
		}
		size := 1
		for range level {
			size *= 16
		}
		n := -first - (level - 1)
		see(n, level, first, min(size, api.MaxFile-first), p)
		for k := range 16 {
			down(level-1, first+k*size/16, Path{p.Root, append(slices.Clone(p.Metas), n), append(slices.Clone(p.Slots), k)})
		}
	}
	for i := range 6 {
		down(0, i, Path{Root: i})
	}
	down(1, 6, Path{Root: 6})
	down(2, 22, Path{Root: 7})
	down(3, 278, Path{Root: 8})
}

func same(a, b Path) bool {
	return a.Root == b.Root && slices.Equal(a.Metas, b.Metas) && slices.Equal(a.Slots, b.Slots)
}

// P4.1, P4.2
func TestEveryBlock(t *testing.T) {
	all := map[int]int{}
	walk(func(n, level, first, count int, p Path) {
		if all[n]++; all[n] > 1 {
			t.Fatalf("P4.2: two blocks %d", n)
		}
		if l, e := Level(n); l != level || e != api.OK {
			t.Errorf("P4.1: Level(%d): %d, %d", n, l, e)
		}
		if f, c, e := Covers(n); f != first || c != count || e != api.OK {
			t.Errorf("P4.1: Covers(%d): %d, %d, %d", n, f, c, e)
		}
		if q, e := To(n); !same(p, q) || e != api.OK {
			t.Errorf("P4.1: To(%d): %v, %d, want %v", n, q, e, p)
		}
		wantBlock, wantSlot := 600, p.Root
		if k := len(p.Metas); k > 0 {
			wantBlock, wantSlot = p.Metas[k-1], p.Slots[k-1]
			up, _ := To(wantBlock)
			if !same(p, Path{up.Root, append(slices.Clone(up.Metas), wantBlock), append(slices.Clone(up.Slots), wantSlot)}) {
				t.Errorf("P4.2: To(%d) isn't its parent's with one step more", n)
			}
		}
		if b, s, e := Parent(n); b != wantBlock || s != wantSlot || e != api.OK {
			t.Errorf("P4.1: Parent(%d): %d, %d, %d", n, b, s, e)
		}
	})
	for n := -1000; n < 1000; n++ {
		if all[n] == 0 {
			refused(t, n)
		}
	}
	for _, n := range []int{math.MinInt, math.MinInt + 1, math.MinInt + 2, math.MaxInt, math.MaxInt - 1, -1 << 32} {
		refused(t, n)
	}
}

func refused(t *testing.T, n int) {
	t.Helper()
	l, e1 := Level(n)
	f, c, e2 := Covers(n)
	p, e3 := To(n)
	b, s, e4 := Parent(n)
	if l|f|c|b|s|p.Root != 0 || p.Metas != nil || p.Slots != nil || e1 != api.ErrRange || e2 != api.ErrRange || e3 != api.ErrRange || e4 != api.ErrRange {
		t.Errorf("P4.1: %d: %d %d, %d %d %d, %v %d, %d %d %d", n, l, e1, f, c, e2, p, e3, b, s, e4)
	}
}

// P4.1
func TestExamplesOfTheChapter(t *testing.T) {
	for n, want := range map[int]Path{5: {Root: 5}, 6: {6, []int{-6}, []int{0}}, 40: {7, []int{-23, -38}, []int{1, 2}}, 278: {8, []int{-280, -279, -278}, []int{0, 0, 0}}} {
		if p, e := To(n); !same(p, want) || e != api.OK {
			t.Errorf("P4.1: To(%d): %v, %d", n, p, e)
		}
	}
	if l, e := Metas(0, 23); !slices.Equal(l, []int{-6, -23, -22}) || e != api.OK {
		t.Errorf("P4.1: %v, %d", l, e)
	}
}

// P4.1
func TestMetas(t *testing.T) {
	type meta struct{ n, level, first, count int }
	var all []meta
	walk(func(n, level, first, count int, p Path) {
		if level > 0 {
			all = append(all, meta{n, level, first, count})
		}
	})
	slices.SortFunc(all, func(a, b meta) int {
		return cmp.Or(cmp.Compare(a.first, b.first), cmp.Compare(b.level, a.level))
	})
	for from := 0; from <= 600; from += 1 + from%3 {
		for to := from; to <= 600; to += 1 + to%5 {
			var want []int
			for _, m := range all {
				if from < to && m.first < to && m.first+m.count > from {
					want = append(want, m.n)
				}
			}
			if l, e := Metas(from, to); !slices.Equal(l, want) || e != api.OK {
				t.Fatalf("P4.1: Metas(%d, %d): %v, %d, want %v", from, to, l, e, want)
			}
		}
	}
	for _, c := range [][2]int{{-1, 5}, {5, 4}, {0, 601}, {601, 601}, {math.MinInt, math.MaxInt}, {math.MaxInt, math.MinInt}, {600, 599}} {
		if l, e := Metas(c[0], c[1]); l != nil || e != api.ErrRange {
			t.Errorf("P4.1: Metas(%d, %d): %v, %d", c[0], c[1], l, e)
		}
	}
}

// P4.3
func TestAnswersAreNew(t *testing.T) {
	p, _ := To(300)
	p.Metas[0], p.Slots[0] = 7, 7
	_ = append(p.Metas[:0], 9, 9, 9, 9)
	if q, _ := To(300); !same(q, Path{8, []int{-280, -279, -294}, []int{0, 1, 6}}) {
		t.Errorf("P4.3: %v", q)
	}
	l, _ := Metas(0, 600)
	l[0] = 99
	if m, _ := Metas(0, 600); m[0] != -6 {
		t.Error("P4.3: answers share")
	}
}
