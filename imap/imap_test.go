package imap_test

import (
	"math"
	"math/rand"
	"slices"
	"testing"

	"marl/api"
	"marl/entry"
	. "marl/imap"
)

func made(t *testing.T, n int) *Map {
	t.Helper()
	m, e := New(n)
	if e != api.OK {
		t.Fatalf("P11.1: New(%d): %d", n, e)
	}
	return m
}

// P11.1
func TestExampleOfTheChapter(t *testing.T) {
	m := made(t, 4)
	for i, c := range [][3]int{{2, 0, 0}, {3, 0, 0}, {-2}, {2, 1, 0}, {4, 0, 0}, {0, 0, int(api.ErrFiles)}} {
		if c[0] < 0 {
			if e := m.Free(-c[0]); e != api.OK {
				t.Errorf("P11.1: Free: %d", e)
			}
			continue
		}
		if ino, v, e := m.Alloc(); ino != c[0] || v != c[1] || int(e) != c[2] {
			t.Errorf("P11.1: step %d: %d, %d, %d", i, ino, v, e)
		}
	}
}

// P11.1
func TestRanges(t *testing.T) {
	for _, n := range []int{math.MinInt, 0, 3, 201, math.MaxInt} {
		if m, e := New(n); m != nil || e != api.ErrRange {
			t.Errorf("P11.1: New(%d): %v, %d", n, m, e)
		}
		if m, e := Load(n, nil); m != nil || e != api.ErrRange {
			t.Errorf("P11.1: Load(%d): %v, %d", n, m, e)
		}
	}
	m := made(t, 200)
	if m.Room() != 199 || len(m.Busy()) != 0 || len(m.Dirty()) != 0 || len(m.Blocks()) != 25 {
		t.Errorf("P11.1: %d, %v, %v", m.Room(), m.Busy(), m.Dirty())
	}
	for _, ino := range []int{math.MinInt, -1, 0, 1, 201, math.MaxInt} {
		a, v, busy := m.Get(ino)
		if a|v != 0 || busy || m.Set(ino, 5) != api.ErrRange || m.Free(ino) != api.ErrRange || m.Force(ino, 1, 1) != api.ErrRange {
			t.Errorf("P11.1: inode %d", ino)
		}
	}
	if m.Set(2, 5) != api.ErrNone || m.Set(2, -1) != api.ErrRange || m.Set(2, 4096) != api.ErrRange || m.Free(2) != api.ErrNone {
		t.Error("P11.1: of a free one")
	}
	for _, c := range [][2]int{{-1, 1}, {65536, 1}, {1, -1}, {1, 4096}} {
		if e := m.Force(2, c[0], c[1]); e != api.ErrRange {
			t.Errorf("P11.1: Force %v: %d", c, e)
		}
	}
	if m.Force(2, 65535, 4095) != api.OK || m.Free(2) != api.OK || m.Room() != 198 {
		t.Errorf("P11.1: Room %d", m.Room())
	}
	if a, v, busy := m.Get(2); a != 0 || v != 65535 || busy {
		t.Errorf("P11.1: %d, %d, %v", a, v, busy)
	}
	if ino, v, e := m.Alloc(); ino != 3 || v != 0 || e != api.OK {
		t.Errorf("P11.2: a Version of 65535 is given: %d, %d, %d", ino, v, e)
	}
}

// P11.1
func TestDirty(t *testing.T) {
	m := made(t, 20)
	step := func(what string, e api.Errno, want ...int) {
		t.Helper()
		if e != api.OK || !slices.Equal(m.Dirty(), want) {
			t.Errorf("P11.1: %s: %d, dirty %v, want %v", what, e, m.Dirty(), want)
		}
	}
	_, _, e := m.Alloc()
	step("Alloc changes no entry", e)
	step("Set to what it is", m.Set(2, 0))
	step("Set", m.Set(2, 7), 0)
	step("Set back", m.Set(2, 0), 0)
	m.Wash()
	step("Wash", api.OK)
	step("Force in the last block", m.Force(17, 0, 9), 2)
	step("Force in the second", m.Force(9, 4, 0), 1, 2)
	m.Wash()
	step("Force to what it is", m.Force(17, 0, 9))
	step("Free", m.Free(2), 0)
	if e := m.Set(17, 4096); e != api.ErrRange || !slices.Equal(m.Dirty(), []int{0}) {
		t.Errorf("P11.1: a refused call dirties: %v", m.Dirty())
	}
	m.Wash()
	m.Force(18, 65535, 0)
	m.Wash()
	step("Force to what it is", m.Force(18, 65535, 0))
	m.Dirty()
	l, e := Load(20, m.Blocks())
	if e != api.OK || len(l.Dirty()) != 0 {
		t.Errorf("P11.1: loaded: %d, dirty %v", e, l.Dirty())
	}
}

// model is a map told plainly.
type model struct {
	n    int
	addr map[int]int
	ver  map[int]int
	busy map[int]bool
	old  map[int]bool // dirty blocks
}

func (m *model) set(ino, v, a int, busy bool) {
	if m.addr[ino] != a || m.ver[ino] != v {
		m.old[(ino-1)/8] = true
	}
	m.addr[ino], m.ver[ino], m.busy[ino] = a, v, busy
}

// P11.1, P11.2, P11.3
func TestRandomCalls(t *testing.T) {
	for seed := range 40 {
		r := rand.New(rand.NewSource(int64(seed)))
		n := 4 + r.Intn(30)
		x, m := made(t, n), &model{n, map[int]int{}, map[int]int{}, map[int]bool{}, map[int]bool{}}
		given := map[int]int{}
		for range 400 {
			ino, a, v := 2+r.Intn(n-1), r.Intn(3)*r.Intn(2000), r.Intn(2)*(65530+r.Intn(6))
			switch r.Intn(8) {
			case 0, 1, 2:
				i, v, e := x.Alloc()
				want := 2
				for want <= n && (m.busy[want] || m.ver[want] == 65535) {
					want++
				}
				if want > n {
					if i|v != 0 || e != api.ErrFiles {
						t.Fatalf("P11.1: Alloc: %d, %d, %d", i, v, e)
					}
					break
				}
				if i != want || v != m.ver[i] || e != api.OK {
					t.Fatalf("P11.1: Alloc: %d, %d, %d, want %d", i, v, e, want)
				}
				if was, ok := given[i]; ok && v <= was {
					t.Fatalf("P11.2: inode %d of version %d behind %d", i, v, was)
				}
				given[i], m.busy[i] = v, true
			case 3, 4:
				e := x.Set(ino, a)
				if m.busy[ino] != (e == api.OK) {
					t.Fatalf("P11.1: Set(%d): %d", ino, e)
				}
				if e == api.OK {
					m.set(ino, m.ver[ino], a, true)
				}
			case 5:
				e := x.Free(ino)
				if m.busy[ino] != (e == api.OK) {
					t.Fatalf("P11.1: Free(%d): %d", ino, e)
				}
				if e == api.OK {
					m.set(ino, min(m.ver[ino]+1, 65535), 0, false)
				}
			case 6:
				if r.Intn(6) == 0 {
					x.Force(ino, v, a)
					m.set(ino, v, a, a != 0)
					delete(given, ino)
				}
			case 7:
				if r.Intn(6) == 0 {
					x.Wash()
					clear(m.old)
				}
			}
			same(t, x, m)
		}
		reload(t, x, m)
	}
}

func same(t *testing.T, x *Map, m *model) {
	t.Helper()
	var busy, dirty []int
	room := 0
	for ino := 2; ino <= m.n; ino++ {
		if a, v, b := x.Get(ino); a != m.addr[ino] || v != m.ver[ino] || b != m.busy[ino] {
			t.Fatalf("P11.1: Get(%d): %d, %d, %v", ino, a, v, b)
		}
		if m.busy[ino] {
			busy = append(busy, ino)
		} else if m.ver[ino] < 65535 {
			room++
		}
	}
	for k := range (m.n + 7) / 8 {
		if m.old[k] {
			dirty = append(dirty, k)
		}
	}
	if !slices.Equal(x.Busy(), busy) || !slices.Equal(x.Dirty(), dirty) || x.Room() != room {
		t.Fatalf("P11.1: busy %v, want %v; dirty %v, want %v; room %d, want %d", x.Busy(), busy, x.Dirty(), dirty, x.Room(), room)
	}
}

func reload(t *testing.T, x *Map, m *model) {
	t.Helper()
	b := x.Blocks()
	for k, block := range b {
		l, e := entry.ReadMap(block)
		if e != api.OK {
			t.Fatalf("P11.1: block %d: %d", k, e)
		}
		for i, got := range l {
			if ino := 8*k + i + 1; got != (entry.MapEntry{Addr: m.addr[ino], Version: m.ver[ino]}) {
				t.Fatalf("P11.1: the entry of %d: %v", ino, got)
			}
		}
	}
	y, e := Load(m.n, b)
	if e != api.OK {
		t.Fatalf("P11.3: Load: %d", e)
	}
	clear(m.old)
	for ino := range m.busy {
		m.busy[ino] = m.addr[ino] != 0
	}
	same(t, y, m)
}

// P11.1
func TestOtherBlocks(t *testing.T) {
	m := made(t, 12)
	m.Force(2, 3, 4)
	for i, c := range []struct {
		change func(b [][]byte) [][]byte
		ok     bool
	}{
		{func(b [][]byte) [][]byte { return b }, true},
		{func(b [][]byte) [][]byte { return b[:1] }, false},
		{func(b [][]byte) [][]byte { return append(b, make([]byte, 64)) }, false},
		{func(b [][]byte) [][]byte { return nil }, false},
		{func(b [][]byte) [][]byte { b[1] = b[1][:63]; return b }, false},
		{func(b [][]byte) [][]byte { b[0][0] = 1; return b }, false},
		{func(b [][]byte) [][]byte { b[0][4] = 1; return b }, false},
		{func(b [][]byte) [][]byte { b[0][6] = 1; return b }, false},
		{func(b [][]byte) [][]byte { b[0][8] = 9; return b }, true},
		{func(b [][]byte) [][]byte { b[0][9] = 16; return b }, false},
		{func(b [][]byte) [][]byte { b[0][14] = 1; return b }, false},
		{func(b [][]byte) [][]byte { b[1][24] = 1; return b }, true},
		{func(b [][]byte) [][]byte { b[1][32] = 1; return b }, false},
		{func(b [][]byte) [][]byte { b[1][60] = 1; return b }, false},
	} {
		x, e := Load(12, c.change(m.Blocks()))
		if (e == api.OK) != c.ok || e != api.OK && (e != api.ErrForm || x != nil) {
			t.Errorf("P11.1: Load %d: %v, %d", i, x, e)
		}
	}
}

// P11.3
func TestNothingIsKeptOrShared(t *testing.T) {
	m := made(t, 9)
	m.Force(3, 1, 2)
	b := m.Blocks()
	x, _ := Load(9, b)
	b[0][16] = 77
	if a, _, _ := x.Get(3); a != 2 {
		t.Error("P11.3: what was handed in is kept")
	}
	if m.Blocks()[0][16] != 2 || x.Blocks()[0][16] != 2 {
		t.Error("P11.3: answers share")
	}
	m.Busy()[0] = 9
	m.Dirty()[0] = 9
	if m.Busy()[0] != 3 || m.Dirty()[0] != 0 {
		t.Error("P11.3: answers share")
	}
}
