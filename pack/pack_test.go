package pack_test

import (
	"math"
	"math/rand"
	"slices"
	"testing"

	"marl/api"
	. "marl/pack"
	"marl/summary"
)

func sameFile(f, g api.Finfo) bool {
	return f.Ino == g.Ino && f.Version == g.Version && slices.Equal(f.Lbns, g.Lbns)
}

func same(a, b []Piece) bool {
	return slices.EqualFunc(a, b, func(p, q Piece) bool {
		return p.New == q.New && slices.Equal(p.Inos, q.Inos) && slices.EqualFunc(p.Files, q.Files, sameFile)
	})
}

// P13.1
func TestExampleOfTheChapter(t *testing.T) {
	l, e := Plan([]api.Finfo{{Ino: 5, Version: 1, Lbns: []int{0, 1, 2}}}, []int{5}, 4, 16)
	want := []Piece{{Files: []api.Finfo{{Ino: 5, Version: 1, Lbns: []int{0, 1}}}}, {New: true, Files: []api.Finfo{{Ino: 5, Version: 1, Lbns: []int{2}}}, Inos: []int{5}}}
	if e != api.OK || !same(l, want) {
		t.Errorf("P13.1: %v, %d", l, e)
	}
	if Blocks(want[0]) != 4 || Blocks(want[1]) != 4 || Blocks(Piece{}) != 2 {
		t.Error("P13.1: Blocks")
	}
}

// P13.1
func TestRanges(t *testing.T) {
	for _, c := range [][2]int{{0, 7}, {0, 65}, {-1, 8}, {9, 8}, {0, math.MinInt}, {math.MaxInt, 64}, {0, 0}, {0, -8}} {
		if l, e := Plan(nil, []int{1}, c[0], c[1]); l != nil || e != api.ErrRange {
			t.Errorf("P13.1: left %d of %d: %v, %d", c[0], c[1], l, e)
		}
	}
	if l, e := Plan(nil, nil, 8, 8); len(l) != 0 || e != api.OK {
		t.Errorf("P13.1: of no items: %v, %d", l, e)
	}
	if l, e := Plan([]api.Finfo{{Ino: 3}}, nil, 8, 8); len(l) != 0 || e != api.OK {
		t.Errorf("P13.1: of a file without blocks: %v, %d", l, e)
	}
	// Pieces of six items each, in segments of 8.
	if l, e := Plan(nil, make([]int, 384), 0, 8); len(l) != 64 || e != api.OK {
		t.Errorf("P13.1: %d pieces, %d", len(l), e)
	}
	if l, e := Plan(nil, make([]int, 385), 0, 8); l != nil || e != api.ErrBig {
		t.Errorf("P13.1: %d pieces, %d", len(l), e)
	}
	if l, e := Plan([]api.Finfo{{Lbns: make([]int, 384)}}, nil, 0, 8); len(l) != 64 || e != api.OK {
		t.Errorf("P13.1: %d pieces, %d", len(l), e)
	}
	if l, e := Plan([]api.Finfo{{Lbns: make([]int, 385)}}, nil, 0, 8); l != nil || e != api.ErrBig {
		t.Errorf("P13.1: %d pieces, %d", len(l), e)
	}
	if l, e := Plan([]api.Finfo{{Lbns: make([]int, 100000)}}, []int{1}, 0, 8); l != nil || e != api.ErrBig {
		t.Errorf("P13.1: %d pieces, %d", len(l), e)
	}
}

// plain is the chapter's rule, item by item, each held against the whole piece.
func plain(files []api.Finfo, inos []int, left, size int) []Piece {
	var l []Piece
	rest := left
	put := func(add func(p Piece, first bool) Piece, first bool) bool {
		if len(l) > 0 {
			p := add(l[len(l)-1], first)
			part := api.Part{Files: p.Files, Inos: p.Inos}
			long := slices.ContainsFunc(p.Files, func(f api.Finfo) bool { return len(f.Lbns) > 30 })
			if 2+items(p) <= rest && summary.Size(part) <= 88 && !long {
				l[len(l)-1] = p
				return false
			}
			rest -= 2 + items(l[len(l)-1])
		}
		p := Piece{New: rest < 3}
		if p.New {
			rest = size
		}
		l = append(l, add(p, true))
		return true
	}
	for _, f := range files {
		first := true
		for _, n := range f.Lbns {
			put(func(p Piece, first bool) Piece {
				p.Files = slices.Clone(p.Files)
				if first {
					p.Files = append(p.Files, api.Finfo{Ino: f.Ino, Version: f.Version})
				}
				at := &p.Files[len(p.Files)-1]
				at.Lbns = append(slices.Clone(at.Lbns), n)
				return p
			}, first)
			first = false
		}
	}
	for _, ino := range inos {
		put(func(p Piece, _ bool) Piece {
			p.Inos = append(slices.Clone(p.Inos), ino)
			return p
		}, false)
	}
	return l
}

func items(p Piece) int {
	n := len(p.Inos)
	for _, f := range p.Files {
		n += len(f.Lbns)
	}
	return n
}

func someItems(r *rand.Rand) ([]api.Finfo, []int) {
	var files []api.Finfo
	for range r.Intn(12) {
		f := api.Finfo{Ino: 1 + r.Intn(3), Version: r.Intn(2)}
		for range r.Intn(2 + r.Intn(60)) {
			f.Lbns = append(f.Lbns, r.Intn(600))
		}
		files = append(files, f)
	}
	inos := make([]int, r.Intn(2+r.Intn(100)))
	for i := range inos {
		inos[i] = 1 + r.Intn(200)
	}
	return files, inos
}

// P13.1, P13.2
func TestRandomItems(t *testing.T) {
	r := rand.New(rand.NewSource(1))
	big := 0
	for range 3000 {
		files, inos := someItems(r)
		size := 8 + r.Intn(57)
		left := r.Intn(size + 1)
		want := plain(files, inos, left, size)
		l, e := Plan(files, inos, left, size)
		if len(want) > 64 {
			big++
			if l != nil || e != api.ErrBig {
				t.Fatalf("P13.1: %d pieces, %d", len(l), e)
			}
			continue
		}
		if e != api.OK || !same(l, want) {
			t.Fatalf("P13.1: %v, %v, %d of %d: %v, %d\nwant %v", files, inos, left, size, l, e, want)
		}
		fits(t, files, inos, left, size, l)
	}
	if big == 0 {
		t.Log("no plan was too big")
	}
}

// fits tells whether all items are in the pieces once, in order, and each piece is a summary's and fits.
func fits(t *testing.T, files []api.Finfo, inos []int, left, size int, l []Piece) {
	t.Helper()
	type item struct{ ino, version, lbn int }
	var in, out []item
	for _, f := range files {
		for _, n := range f.Lbns {
			in = append(in, item{f.Ino, f.Version, n})
		}
	}
	var got []int
	for _, p := range l {
		for _, f := range p.Files {
			for _, n := range f.Lbns {
				out = append(out, item{f.Ino, f.Version, n})
			}
		}
		if len(got) > 0 && len(p.Files) > 0 {
			t.Fatal("P13.2: a file's block behind an inode")
		}
		got = append(got, p.Inos...)
		if p.New {
			left = size
		}
		left -= Blocks(p)
		if e := summary.Check(api.Part{Parts: 1, Files: p.Files, Inos: p.Inos}); e != api.OK || left < 0 || Blocks(p) < 3 {
			t.Fatalf("P13.2: %v: %d, %d left", p, e, left)
		}
	}
	if !slices.Equal(in, out) || !slices.Equal(got, inos) {
		t.Fatalf("P13.2: %v, %v of %v, %v", out, got, in, inos)
	}
}

// P13.1
func TestCost(t *testing.T) {
	for _, c := range [][3]int{{0, 16, 0}, {-5, 16, 0}, {1, 16, 3 + 5}, {5, 16, 7 + 5}, {6, 16, 10 + 5}, {7, 16, 11 + 5}, {8, 16, 12 + 10}, {100, 64, 140 + 15}, {1, 8, 3 + 5}, {2, 8, 4 + 10}, {1, 5, 0}, {1, 0, 0}, {1, math.MinInt, 0}, {math.MinInt, 64, 0}} {
		if n := Cost(c[0], c[1]); n != c[2] {
			t.Errorf("P13.1: Cost(%d, %d): %d, want %d", c[0], c[1], n, c[2])
		}
	}
	Cost(math.MaxInt, 64)
	Cost(math.MaxInt, math.MaxInt)
}

// P13.3
func TestCostIsEnough(t *testing.T) {
	r := rand.New(rand.NewSource(2))
	for range 4000 {
		files, inos := someItems(r)
		if r.Intn(3) == 0 {
			// The worst: each block of another file.
			files = nil
			for range r.Intn(200) {
				files = append(files, api.Finfo{Ino: 1 + r.Intn(200), Lbns: []int{1}})
			}
		}
		size := 16 + r.Intn(49)
		l, e := Plan(files, inos, 0, size)
		if e != api.OK {
			continue
		}
		n, total := 0, 0
		for _, p := range l {
			n += items(p)
			if p.New {
				total += size
			}
		}
		// What is left of the last segment isn't taken.
		used := 0
		for _, p := range l {
			if p.New {
				used = 0
			}
			used += Blocks(p)
		}
		if len(l) > 0 {
			total -= size - used
		}
		if total > Cost(n, size) {
			t.Fatalf("P13.3: %d items take %d blocks of segments of %d, Cost %d", n, total, size, Cost(n, size))
		}
	}
}

// P13.4
func TestNothingIsShared(t *testing.T) {
	lbns, inos := []int{1, 2, 3, 4}, []int{7, 8, 9}
	files := []api.Finfo{{Ino: 1, Lbns: lbns[:3]}}
	l, _ := Plan(files, inos[:2], 0, 16)
	l[0].Files[0].Lbns[0] = 99
	l[0].Inos[0] = 99
	_ = append(l[0].Files[0].Lbns, 98)
	_ = append(l[0].Inos, 98)
	if !slices.Equal(lbns, []int{1, 2, 3, 4}) || !slices.Equal(inos, []int{7, 8, 9}) || files[0].Ino != 1 {
		t.Errorf("P13.4: %v, %v", lbns, inos)
	}
	l, _ = Plan([]api.Finfo{{Ino: 1, Lbns: []int{1}}, {Ino: 1, Lbns: []int{2}}}, nil, 0, 16)
	_ = append(l[0].Files[0].Lbns, 98, 97, 96)
	_ = append(l[0].Files[:1], api.Finfo{Ino: 5})
	l2, _ := Plan([]api.Finfo{{Ino: 1, Lbns: []int{1}}, {Ino: 1, Lbns: []int{2}}}, nil, 0, 16)
	if !slices.Equal(l2[0].Files[1].Lbns, []int{2}) {
		t.Error("P13.4: lists of an answer share")
	}
}
