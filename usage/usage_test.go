package usage_test

import (
	"math"
	"math/rand"
	"slices"
	"testing"

	"marl/api"
	. "marl/usage"
)

func made(t *testing.T, segs, size int) *Table {
	t.Helper()
	x, e := New(segs, size)
	if e != api.OK {
		t.Fatalf("P10.1: New(%d, %d): %d", segs, size, e)
	}
	return x
}

// P10.1
func TestNew(t *testing.T) {
	for _, c := range [][2]int{{0, 1}, {513, 1}, {1, 0}, {1, 65}, {-1, 8}, {8, -1}, {math.MaxInt, 8}, {8, math.MinInt}} {
		if x, e := New(c[0], c[1]); x != nil || e != api.ErrRange {
			t.Errorf("P10.1: New(%v): %v, %d", c, x, e)
		}
	}
	for _, c := range [][2]int{{1, 1}, {512, 64}} {
		x := made(t, c[0], c[1])
		if x.Count(Clean) != c[0] || x.Count(Used) != 0 || x.Count(Active) != 0 || x.Count(3) != 0 || x.Count(-1) != 0 || x.Total() != 0 || len(x.Sweep()) != 0 {
			t.Errorf("P10.1: New(%v) isn't all Clean", c)
		}
		if i, e := x.Get(c[0] - 1); i != (Info{}) || e != api.OK {
			t.Errorf("P10.1: %v, %d", i, e)
		}
	}
	if Clean != 0 || Used != 1 || Active != 2 {
		t.Error("P10.1: the states' numbers")
	}
}

// P10.1
func TestExampleOfTheChapter(t *testing.T) {
	x := made(t, 3, 8)
	a, _ := x.Take()
	b, _ := x.Take()
	e := x.Release(0)
	c, _ := x.Take()
	d, _ := x.Take()
	_, e2 := x.Take()
	if a != 0 || b != 1 || e != api.OK || c != 2 || d != 0 || e2 != api.ErrFull {
		t.Errorf("P10.1: %d, %d, %d, %d, %d, %d", a, b, e, c, d, e2)
	}
}

// P10.1
func TestRanges(t *testing.T) {
	x := made(t, 4, 8)
	for _, s := range []int{math.MinInt, -1, 4, math.MaxInt} {
		i, e := x.Get(s)
		if i != (Info{}) || e != api.ErrRange || x.Add(s, 0) != api.ErrRange || x.Touch(s, 1) != api.ErrRange || x.Use(s) != api.ErrRange || x.Seize(s) != api.ErrRange || x.Release(s) != api.ErrRange {
			t.Errorf("P10.1: segment %d", s)
		}
	}
	x.Add(1, 5)
	for _, n := range []int{4, -6, math.MaxInt, math.MinInt, math.MaxInt - 4} {
		if e := x.Add(1, n); e != api.ErrRange {
			t.Errorf("P10.1: Add %d: %d", n, e)
		}
	}
	if x.Touch(1, -1) != api.ErrRange || x.Touch(1, 9) != api.OK || x.Touch(1, 4) != api.OK || x.Touch(2, math.MaxInt) != api.OK {
		t.Error("P10.1: Touch")
	}
	if i, _ := x.Get(1); i != (Info{5, Clean, 9}) {
		t.Errorf("P10.1: %v", i)
	}
	if x.Add(1, 3) != api.OK || x.Add(1, -8) != api.OK || x.Total() != 0 {
		t.Error("P10.1: Add up to the edges")
	}
}

// P10.1, P10.2
func TestStates(t *testing.T) {
	x := made(t, 4, 8)
	if x.Release(0) != api.ErrStale || x.Use(0) != api.OK || x.Use(0) != api.ErrStale || x.Seize(0) != api.OK || x.Use(0) != api.ErrStale || x.Release(0) != api.ErrBusy {
		t.Error("P10.1: states")
	}
	if x.Seize(2) != api.OK || x.Count(Active) != 1 || x.Count(Used) != 1 {
		t.Error("P10.1: at most one is Active")
	}
	// The hand went along.
	if s, e := x.Take(); s != 3 || e != api.OK {
		t.Errorf("P10.1: Take: %d, %d", s, e)
	}
	if s, e := x.Take(); s != 1 || e != api.OK {
		t.Errorf("P10.1: Take goes round: %d, %d", s, e)
	}
	x.Add(3, 1)
	x.Touch(0, 5)
	if e := x.Release(3); e != api.ErrBusy {
		t.Errorf("P10.1: Release of a live one: %d", e)
	}
	if l := x.Sweep(); !slices.Equal(l, []int{0, 2}) {
		t.Errorf("P10.1: Sweep: %v", l)
	}
	if i, _ := x.Get(0); i != (Info{}) {
		t.Errorf("P10.1: its Age stays: %v", i)
	}
	if e := x.Seize(1); e != api.OK || x.Count(Active) != 1 {
		t.Errorf("P10.1: Seize of the Active one: %d", e)
	}
	if s, e := x.Take(); s != 2 || e != api.OK {
		t.Errorf("P10.1: Take: %d, %d", s, e)
	}
}

// plain is a table told plainly.
type plain struct {
	segs []Info
	size int
	hand int
}

func (p *plain) active(s int) {
	for i := range p.segs {
		if p.segs[i].State == 2 {
			p.segs[i].State = 1
		}
	}
	p.segs[s].State, p.hand = 2, s
}

// P10.1, P10.2
func TestRandomCalls(t *testing.T) {
	for seed := range 60 {
		r := rand.New(rand.NewSource(int64(seed)))
		n, size := 1+r.Intn(6), 1+r.Intn(8)
		x, p := made(t, n, size), &plain{make([]Info, n), size, n - 1}
		for range 400 {
			s := r.Intn(n)
			i := &p.segs[s]
			var got, want api.Errno
			switch r.Intn(7) {
			case 0:
				k := r.Intn(2*size+3) - size - 1
				got = x.Add(s, k)
				if want = api.ErrRange; i.Live+k >= 0 && i.Live+k <= size {
					want = api.OK
					i.Live += k
				}
			case 1:
				a := r.Intn(50)
				got = x.Touch(s, a)
				i.Age = max(i.Age, a)
			case 2:
				var at int
				at, got = x.Take()
				want = api.ErrFull
				for k := 1; k <= n; k++ {
					if s := (p.hand + k) % n; p.segs[s].State == 0 {
						want = api.OK
						p.active(s)
						if at != s {
							t.Fatalf("P10.1: Take: %d, want %d", at, s)
						}
						break
					}
				}
			case 3:
				got = x.Use(s)
				if want = api.ErrStale; i.State == 0 {
					want, i.State = api.OK, 1
				}
			case 4:
				if r.Intn(3) == 0 {
					got = x.Seize(s)
					p.active(s)
				}
			case 5:
				got = x.Release(s)
				switch {
				case i.State == 0:
					want = api.ErrStale
				case i.State == 2 || i.Live != 0:
					want = api.ErrBusy
				default:
					*i = Info{}
				}
			case 6:
				if r.Intn(3) == 0 {
					l := x.Sweep()
					var m []int
					for k := range p.segs {
						if p.segs[k].State == 1 && p.segs[k].Live == 0 {
							p.segs[k] = Info{}
							m = append(m, k)
						}
					}
					if !slices.Equal(l, m) {
						t.Fatalf("P10.1: Sweep: %v, want %v", l, m)
					}
				}
			}
			if got != want {
				t.Fatalf("P10.1: %d, want %d", got, want)
			}
			var count [3]int
			total := 0
			for k, want := range p.segs {
				if i, e := x.Get(k); i != want || e != api.OK {
					t.Fatalf("P10.1: segment %d: %v, want %v", k, i, want)
				}
				count[want.State]++
				total += want.Live
			}
			if count != [3]int{x.Count(0), x.Count(1), x.Count(2)} || total != x.Total() {
				t.Fatalf("P10.1: counts %v, total %d", count, total)
			}
		}
	}
}

// P10.3
func TestAnswersAreNew(t *testing.T) {
	x := made(t, 3, 8)
	x.Use(0)
	x.Use(1)
	l := x.Sweep()
	l[0] = 7
	x.Use(0)
	x.Use(1)
	if m := x.Sweep(); !slices.Equal(m, []int{0, 1}) || l[0] != 7 {
		t.Errorf("P10.3: %v", m)
	}
}
