package pick_test

import (
	"math"
	"math/big"
	"math/rand"
	"slices"
	"testing"

	"marl/api"
	. "marl/pick"
)

// benefit is the chapter's fraction.
func benefit(c Cand) *big.Rat {
	return big.NewRat(int64(c.Cap-c.Live)*int64(c.Age), int64(c.Cap+c.Live))
}

func better(c, d Cand) bool {
	if k := benefit(c).Cmp(benefit(d)); k != 0 {
		return k > 0
	}
	if c.Live != d.Live {
		return c.Live < d.Live
	}
	return c.Seg < d.Seg
}

func someCand(r *rand.Rand) Cand {
	c := Cand{Seg: r.Intn(5), Cap: 1 + r.Intn(64)}
	c.Live = r.Intn(c.Cap + 1)
	c.Age = []int{r.Intn(4), 1<<31 - r.Intn(3), r.Intn(1 << 20)}[r.Intn(3)]
	if r.Intn(3) == 0 {
		c = Cand{Seg: r.Intn(3), Cap: 8, Live: 4 * r.Intn(3), Age: r.Intn(3)}
	}
	return c
}

// P12.1
func TestCheck(t *testing.T) {
	for _, c := range []struct {
		c  Cand
		ok bool
	}{
		{Cand{0, 0, 1, 0}, true}, {Cand{math.MinInt, 64, 64, 1 << 31}, true}, {Cand{math.MaxInt, 1, 1, 1}, true}, {Cand{0, 0, 0, 0}, false}, {Cand{0, 0, 65, 0}, false},
		{Cand{0, -1, 8, 0}, false}, {Cand{0, 9, 8, 0}, false}, {Cand{0, 0, 8, -1}, false}, {Cand{0, 0, 8, 1<<31 + 1}, false}, {Cand{0, math.MinInt, math.MaxInt, 1}, false},
	} {
		want := api.ErrRange
		if c.ok {
			want = api.OK
		}
		l := []Cand{{0, 0, 8, 1}, c.c}
		if e := Check(l); e != want {
			t.Errorf("P12.1: Check(%v): %d", c.c, e)
		}
		b, e1 := Best(l, 2)
		u, e2 := Until(l, 100)
		if e1 != want || e2 != want || (len(b) == 2) != c.ok || (len(u) == 2) != c.ok {
			t.Errorf("P12.1: %v: %v, %d, %v, %d", c.c, b, e1, u, e2)
		}
	}
	l := slices.Repeat([]Cand{{0, 0, 8, 1}}, 512)
	if Check(l) != api.OK || Check(append(l, l[0])) != api.ErrRange || Check(nil) != api.OK {
		t.Error("P12.1: how many")
	}
	if b, e := Best(append(l, l[0]), 1); b != nil || e != api.ErrRange {
		t.Errorf("P12.1: too many: %v, %d", b, e)
	}
	for _, k := range []int{-1, math.MinInt} {
		b, e1 := Best(l, k)
		u, e2 := Until(l, k)
		if b != nil || u != nil || e1 != api.ErrRange || e2 != api.ErrRange {
			t.Errorf("P12.1: %d: %v, %d, %v, %d", k, b, e1, u, e2)
		}
	}
}

// P12.1, P12.2
func TestBetter(t *testing.T) {
	if a, b := (Cand{1, 2, 8, 10}), (Cand{2, 0, 8, 5}); !a.Better(b) || b.Better(a) {
		t.Error("P12.1: the chapter's example")
	}
	r := rand.New(rand.NewSource(1))
	for range 20000 {
		a, b := someCand(r), someCand(r)
		if a.Better(b) != better(a, b) || a.Better(b) && b.Better(a) {
			t.Fatalf("P12.1: %v, %v: %v", a, b, a.Better(b))
		}
	}
}

// sorted is the whole order, told by a stable sort.
func sorted(l []Cand) []Cand {
	s := slices.Clone(l)
	slices.SortStableFunc(s, func(a, b Cand) int {
		switch {
		case better(a, b):
			return -1
		case better(b, a):
			return 1
		}
		return 0
	})
	return s
}

// P12.1, P12.2
func TestOrder(t *testing.T) {
	r := rand.New(rand.NewSource(2))
	for range 400 {
		l := make([]Cand, r.Intn(30))
		for i := range l {
			l[i] = someCand(r)
		}
		was, s := slices.Clone(l), sorted(l)
		k := r.Intn(35)
		b, e := Best(l, k)
		if e != api.OK || !slices.Equal(b, s[:min(k, len(s))]) {
			t.Fatalf("P12.1: Best(%v, %d): %v, want %v", l, k, b, s)
		}
		room := r.Intn(300)
		n, made := 0, 0
		for n < len(s) && made < room {
			made += s[n].Cap - s[n].Live
			n++
		}
		u, e := Until(l, room)
		if e != api.OK || !slices.Equal(u, s[:n]) {
			t.Fatalf("P12.1: Until(%v, %d): %v, want %v", l, room, u, s[:n])
		}
		if !slices.Equal(l, was) {
			t.Fatal("P12.3: what is handed in is changed")
		}
	}
}

// P12.1
func TestEdges(t *testing.T) {
	l := []Cand{{1, 8, 8, 9}, {2, 7, 8, 1}, {3, 0, 8, 0}}
	if u, e := Until(l, 0); len(u) != 0 || e != api.OK {
		t.Errorf("P12.1: Until 0: %v, %d", u, e)
	}
	if u, _ := Until(l, 1); !slices.Equal(u, []Cand{{2, 7, 8, 1}}) {
		t.Errorf("P12.1: Until 1: %v", u)
	}
	if u, _ := Until(l, 2); !slices.Equal(u, []Cand{{2, 7, 8, 1}, {3, 0, 8, 0}}) {
		t.Errorf("P12.1: Until 2: %v", u)
	}
	if u, _ := Until(l, math.MaxInt); len(u) != 3 {
		t.Errorf("P12.1: all: %v", u)
	}
	if b, _ := Best(l, math.MaxInt); len(b) != 3 {
		t.Errorf("P12.1: all: %v", b)
	}
	if b, e := Best(nil, 5); len(b) != 0 || e != api.OK {
		t.Errorf("P12.1: of none: %v, %d", b, e)
	}
}

// P12.3
func TestAnswersAreNew(t *testing.T) {
	l := []Cand{{1, 0, 8, 9}, {2, 7, 8, 1}}
	b, _ := Best(l, 1)
	b[0].Seg = 77
	_ = append(b, Cand{}, Cand{})
	u, _ := Until(l, 1)
	u[0].Seg = 78
	if l[0].Seg != 1 || l[1].Seg != 2 {
		t.Error("P12.3: answers share with what was handed in")
	}
}
