package file_test

import (
	"bytes"
	"math"
	"math/rand"
	"slices"
	"testing"

	"marl/api"
	. "marl/file"
	"marl/index"
	"marl/inode"
)

// P16.1
func TestExampleOfTheChapter(t *testing.T) {
	m := New()
	if l, e := m.Set(22, 50); len(l) != 0 || e != api.OK {
		t.Errorf("P16.1: %v, %d", l, e)
	}
	if l := m.Metas(); !slices.Equal(l, []int{-23, -22}) {
		t.Errorf("P16.1: %v", l)
	}
	m.Set(-22, 60)
	m.Set(-23, 61)
	if r := m.Root(); r != [9]uint32{7: 61} {
		t.Errorf("P16.1: %v", r)
	}
	if l, e := m.Cut(0); !slices.Equal(l, []int{50, 60, 61}) || e != api.OK {
		t.Errorf("P16.1: %v, %d", l, e)
	}
	if len(m.Metas()) != 0 || len(m.Places()) != 0 || m.Root() != [9]uint32{} {
		t.Error("P16.1: something is left")
	}
}

// P16.1
func TestRefusals(t *testing.T) {
	m := New()
	m.Set(7, 5)
	for _, c := range []struct {
		n, addr int
		e       api.Errno
	}{
		{600, 5, 22}, {-7, 5, 22}, {math.MinInt, 5, 22}, {math.MaxInt, 0, 22}, {0, -1, 22}, {0, 4096, 22}, {0, math.MaxInt, 22}, {0, math.MinInt, 22}, {-7, 4096, 22},
		{-22, 5, 2}, {-22, 0, 2}, {-22, 4096, 22}, {-280, 1, 2}, {-6, 4096, 22}, {-6, 4095, 0}, {599, 4095, 0}, {-6, 0, 0},
	} {
		if l, e := m.Set(c.n, c.addr); e != c.e || e != api.OK && l != nil {
			t.Errorf("P16.1: Set(%d, %d): %v, %d", c.n, c.addr, l, e)
		}
	}
	for _, from := range []int{-1, 601, math.MinInt, math.MaxInt} {
		if l, e := m.Cut(from); l != nil || e != api.ErrRange {
			t.Errorf("P16.1: Cut(%d): %v, %d", from, l, e)
		}
	}
	for _, n := range []int{0, 7, 600, -7, -22, math.MinInt, math.MaxInt} {
		if b, e := m.Block(n); b != nil || e != api.ErrNone {
			t.Errorf("P16.1: Block(%d): %v, %d", n, b, e)
		}
		if n != 7 && (m.Get(n) != 0 || m.Has(n)) {
			t.Errorf("P16.1: %d is there", n)
		}
	}
	if l, e := m.Cut(600); len(l) != 0 || e != api.OK || !m.Has(599) {
		t.Errorf("P16.1: Cut(600): %v, %d", l, e)
	}
}

// model is a map told plainly.
type model struct {
	data  map[int]int
	metas map[int]int
}

// need answers the blocks of pointers that lead to data with an address.
func (m *model) need() map[int]bool {
	l := map[int]bool{}
	for n := range m.data {
		p, _ := index.To(n)
		for _, x := range p.Metas {
			l[x] = true
		}
	}
	return l
}

func (m *model) settle(gone []int) []int {
	need := m.need()
	for x, addr := range m.metas {
		if !need[x] {
			if addr != 0 {
				gone = append(gone, addr)
			}
			delete(m.metas, x)
		}
	}
	for x := range need {
		if _, ok := m.metas[x]; !ok {
			m.metas[x] = 0
		}
	}
	slices.Sort(gone)
	return gone
}

func (m *model) set(n, addr int) ([]int, api.Errno) {
	l := m.data
	if n < 0 {
		l = m.metas
		if _, ok := l[n]; !ok {
			return nil, api.ErrNone
		}
	}
	var gone []int
	if l[n] != 0 && l[n] != addr {
		gone = append(gone, l[n])
	}
	l[n] = addr
	if n >= 0 && addr == 0 {
		delete(l, n)
	}
	return m.settle(gone), api.OK
}

func (m *model) cut(from int) []int {
	var gone []int
	for n, addr := range m.data {
		if n >= from {
			gone = append(gone, addr)
			delete(m.data, n)
		}
	}
	return m.settle(gone)
}

// blocks are all numbers of blocks of a file.
func blocks() []int {
	l, _ := index.Metas(0, 600)
	for n := range 600 {
		l = append(l, n)
	}
	return l
}

func (m *model) same(t *testing.T, x *Map) {
	t.Helper()
	metas, _ := index.Metas(0, 600)
	var want []int
	var places []Place
	for n := range 600 {
		if m.data[n] != 0 {
			places = append(places, Place{n, m.data[n]})
		}
	}
	for _, n := range metas {
		if addr, ok := m.metas[n]; ok {
			want = append(want, n)
			if addr != 0 {
				places = append(places, Place{n, addr})
			}
		}
	}
	if !slices.Equal(x.Metas(), want) || !slices.Equal(x.Places(), places) {
		t.Fatalf("P16.1: %v, %v; want %v, %v", x.Metas(), x.Places(), want, places)
	}
	var root [9]uint32
	inside := map[int]*[16]uint32{}
	for _, n := range want {
		inside[n] = &[16]uint32{}
	}
	for _, n := range blocks() {
		addr, ok := m.data[n], m.data[n] != 0
		if n < 0 {
			addr, ok = m.metas[n], slices.Contains(want, n)
		}
		if x.Get(n) != addr || x.Has(n) != ok {
			t.Fatalf("P16.1: %d: %d, %v, want %d, %v", n, x.Get(n), x.Has(n), addr, ok)
		}
		if up, slot, _ := index.Parent(n); up == 600 {
			root[slot] = uint32(addr)
		} else if addr != 0 {
			inside[up][slot] = uint32(addr)
		}
	}
	if x.Root() != root {
		t.Fatalf("P16.1: Root: %v, want %v", x.Root(), root)
	}
	for n, ptr := range inside {
		if b, e := x.Block(n); e != api.OK || !bytes.Equal(b, inode.Block(*ptr)) {
			t.Fatalf("P16.1: Block(%d): % x, %d", n, b, e)
		}
	}
}

// P16.1, P16.3
func TestRandomCalls(t *testing.T) {
	for seed := range 25 {
		r := rand.New(rand.NewSource(int64(seed)))
		x, m := New(), &model{map[int]int{}, map[int]int{}}
		all := blocks()
		for range 150 {
			switch r.Intn(12) {
			case 0:
				from := r.Intn(601)
				got, e := x.Cut(from)
				if want := m.cut(from); !slices.Equal(got, want) || e != api.OK {
					t.Fatalf("P16.3: Cut(%d): %v, %d, want %v", from, got, e, want)
				}
			default:
				n, addr := all[r.Intn(len(all))], r.Intn(3)*r.Intn(2047)/(1+r.Intn(2))
				if r.Intn(3) == 0 && len(m.metas) > 0 {
					l := x.Metas()
					n = l[r.Intn(len(l))]
				}
				got, e := x.Set(n, addr)
				want, we := m.set(n, addr)
				if !slices.Equal(got, want) || e != we {
					t.Fatalf("P16.3: Set(%d, %d): %v, %d, want %v, %d", n, addr, got, e, want, we)
				}
			}
			m.same(t, x)
		}
	}
}

// filled answers a map with unlike addresses, and what stands at them.
func filled(t *testing.T, r *rand.Rand) (*Map, map[int][]byte) {
	t.Helper()
	m := New()
	addrs := r.Perm(4095)
	for range r.Intn(80) {
		n := r.Intn(600)
		if r.Intn(3) == 0 {
			n = r.Intn(24)
		}
		m.Set(n, addrs[n]+1)
	}
	for i, n := range m.Metas() {
		m.Set(n, addrs[600+i]+1)
	}
	at := map[int][]byte{}
	for _, n := range m.Metas() {
		at[m.Get(n)], _ = m.Block(n)
	}
	return m, at
}

// P16.2
func TestThereAndBack(t *testing.T) {
	r := rand.New(rand.NewSource(1))
	for range 200 {
		m, at := filled(t, r)
		asked := map[int]int{}
		var order []int
		x, e := Load(m.Root(), func(addr int) ([]byte, bool) {
			asked[addr]++
			order = append(order, addr)
			b, ok := at[addr]
			return b, ok
		})
		if e != api.OK || !slices.Equal(x.Places(), m.Places()) || !slices.Equal(x.Metas(), m.Metas()) || x.Root() != m.Root() {
			t.Fatalf("P16.2: %d, %v, want %v", e, x, m.Places())
		}
		// The order of Metas is by depth, the lesser pointer first.
		var want []int
		for _, n := range m.Metas() {
			want = append(want, m.Get(n))
		}
		if !slices.Equal(order, want) {
			t.Fatalf("P16.1: asked %v, want %v", order, want)
		}
	}
}

// P16.1
func TestWhatIsNotLoaded(t *testing.T) {
	point := func(slot int, to uint32) []byte {
		var p [16]uint32
		p[slot] = to
		return inode.Block(p)
	}
	for i, c := range []struct {
		ptr  [9]uint32
		at   map[int][]byte
		ok   bool
		asks []int
	}{
		{[9]uint32{}, nil, true, nil},
		{[9]uint32{0: 4095}, nil, true, nil},
		{[9]uint32{0: 4096}, nil, false, nil},
		{[9]uint32{5: math.MaxUint32}, nil, false, nil},
		{[9]uint32{6: 4096}, nil, false, nil},
		{[9]uint32{6: 9}, nil, false, []int{9}},
		{[9]uint32{6: 9}, map[int][]byte{9: point(15, 4095)}, true, []int{9}},
		{[9]uint32{6: 9}, map[int][]byte{9: point(15, 4096)}, false, []int{9}},
		{[9]uint32{6: 9}, map[int][]byte{9: make([]byte, 64)}, false, []int{9}},
		{[9]uint32{6: 9}, map[int][]byte{9: point(0, 1)[:63]}, false, []int{9}},
		{[9]uint32{6: 9}, map[int][]byte{9: append(point(0, 1), 0)}, false, []int{9}},
		{[9]uint32{6: 9}, map[int][]byte{9: nil}, false, []int{9}},
		{[9]uint32{7: 9}, map[int][]byte{9: point(2, 8), 8: point(0, 7)}, true, []int{9, 8}},
		{[9]uint32{7: 9}, map[int][]byte{9: point(2, 8), 8: point(0, 0)}, false, []int{9, 8}},
		{[9]uint32{7: 9}, map[int][]byte{9: point(2, 5000)}, false, []int{9}},
		{[9]uint32{6: 9, 7: 9}, map[int][]byte{9: point(2, 9)}, true, []int{9}},
		// Pointer 8 covers 278 to 599: the second of its blocks of level 2 begins at 534, of which the fifth of level 1 at 598.
		{[9]uint32{8: 9}, map[int][]byte{9: point(1, 8), 8: point(4, 7), 7: point(1, 6)}, true, []int{9, 8, 7}},
		{[9]uint32{8: 9}, map[int][]byte{9: point(1, 8), 8: point(4, 7), 7: point(2, 6)}, false, []int{9, 8, 7}},
		{[9]uint32{8: 9}, map[int][]byte{9: point(1, 8), 8: point(5, 7), 7: point(0, 6)}, false, []int{9, 8}},
		{[9]uint32{8: 9}, map[int][]byte{9: point(2, 8), 8: point(0, 7), 7: point(0, 6)}, false, []int{9}},
		{[9]uint32{8: 9}, map[int][]byte{9: inode.Block([16]uint32{9, 9, 9, 9, 9, 9, 9, 9, 9, 9, 9, 9, 9, 9, 9, 9})}, false, []int{9}},
		{[9]uint32{6: 9, 8: 8}, nil, false, []int{9}},
	} {
		var asks []int
		m, e := Load(c.ptr, func(addr int) ([]byte, bool) {
			asks = append(asks, addr)
			b, ok := c.at[addr]
			return b, ok
		})
		if (e == api.OK) != c.ok || (m != nil) != c.ok || e != api.OK && e != api.ErrForm || !slices.Equal(asks, c.asks) {
			t.Errorf("P16.1: Load %d: %v, %d, asked %v", i, m, e, asks)
		}
	}
	if m, e := Load([9]uint32{6: 1}, nil); m != nil || e != api.ErrForm {
		t.Errorf("P6: without a read: %v, %d", m, e)
	}
	if m, e := Load([9]uint32{1: 1}, nil); m == nil || e != api.OK {
		t.Errorf("P16.1: where none is asked: %v, %d", m, e)
	}
	if m, e := Load([9]uint32{6: 1}, func(int) ([]byte, bool) { panic("no") }); m != nil || e != api.ErrForm {
		t.Errorf("P6: with a read that panics: %v, %d", m, e)
	}
}

// P16.1
func TestSameAddress(t *testing.T) {
	m := New()
	m.Set(3, 9)
	if l, e := m.Set(3, 9); len(l) != 0 || e != api.OK {
		t.Errorf("P16.1: it is told yet: %v, %d", l, e)
	}
	m.Set(8, 4)
	m.Set(-6, 5)
	if l, _ := m.Set(-6, 5); len(l) != 0 {
		t.Errorf("P16.1: it is told yet: %v", l)
	}
	if l, _ := m.Set(8, 3); !slices.Equal(l, []int{4}) || m.Get(-6) != 5 {
		t.Errorf("P16.1: %v", l)
	}
	if l, _ := m.Set(8, 0); !slices.Equal(l, []int{3, 5}) {
		t.Errorf("P16.1: %v", l)
	}
}

// P16.1: what is told no more is told rising, wherever it stood.
func TestGoneIsRising(t *testing.T) {
	for _, addrs := range [][3]int{{60, 50, 40}, {50, 60, 40}, {40, 60, 50}} {
		m := New()
		m.Set(22, addrs[0])
		m.Set(-22, addrs[1])
		m.Set(-23, addrs[2])
		if l, e := m.Set(22, 0); !slices.Equal(l, []int{40, 50, 60}) || e != api.OK {
			t.Errorf("P16.1: %v, %d", l, e)
		}
	}
}

// R6
func TestAnswersAreNew(t *testing.T) {
	m := New()
	m.Set(8, 4)
	b, _ := m.Block(-6)
	b[0] = 9
	m.Metas()[0] = 1
	m.Places()[0].Addr = 1
	if c, _ := m.Block(-6); c[0] != 0 || m.Metas()[0] != -6 || m.Places()[0] != (Place{8, 4}) {
		t.Error("P16.1: answers share")
	}
	at := inode.Block([16]uint32{2: 4})
	x, _ := Load([9]uint32{6: 9}, func(int) ([]byte, bool) { return at, true })
	at[8] = 77
	if x.Get(8) != 4 {
		t.Error("P16.1: what was handed in is kept")
	}
}
