package geom_test

import (
	"bytes"
	"math"
	"math/rand"
	"testing"

	"marl/api"
	. "marl/geom"
	"marl/sum"
)

// P3.1
func TestExampleOfTheChapter(t *testing.T) {
	s := Super{100, 16, 20}
	if s.Check() != api.OK || s.Segs() != 6 {
		t.Errorf("P3.1: %d, %d", s.Check(), s.Segs())
	}
	if f, e := s.First(1); f != 19 || e != api.OK {
		t.Errorf("P3.1: First(1): %d, %d", f, e)
	}
	if g, p, e := s.Of(20); g != 1 || p != 1 || e != api.OK {
		t.Errorf("P3.1: Of(20): %d, %d, %d", g, p, e)
	}
	if l, e := s.Left(34); l != 1 || e != api.OK {
		t.Errorf("P3.1: Left(34): %d, %d", l, e)
	}
	if g, p, e := s.Of(99); g != 0 || p != 0 || e != api.ErrRange {
		t.Errorf("P3.1: Of(99): %d, %d, %d", g, p, e)
	}
}

// P3.1
func TestWhatIsAGeometry(t *testing.T) {
	for _, c := range []struct {
		s  Super
		ok bool
	}{
		{Super{64, 8, 4}, true}, {Super{63, 8, 4}, false}, {Super{4096, 64, 200}, true}, {Super{4097, 64, 200}, false},
		{Super{64, 7, 4}, false}, {Super{4096, 65, 4}, false}, {Super{64, 8, 3}, false}, {Super{64, 8, 201}, false},
		{Super{64, 10, 4}, true}, {Super{64, 11, 4}, false}, {Super{387, 64, 4}, true}, {Super{386, 64, 4}, false},
		{Super{}, false}, {Super{math.MinInt, math.MinInt, math.MinInt}, false}, {Super{math.MaxInt, math.MaxInt, math.MaxInt}, false},
		{Super{100, 0, 4}, false}, {Super{100, -8, 4}, false},
	} {
		if e := c.s.Check(); (e == api.OK) != c.ok || e != api.OK && e != api.ErrRange {
			t.Errorf("P3.1: %v: %d", c.s, e)
		}
		if c.ok {
			continue
		}
		if n := c.s.Segs(); n != 0 {
			t.Errorf("P3.1: %v has %d segments", c.s, n)
		}
		for _, a := range []int{math.MinInt, -1, 0, 3, 50, math.MaxInt} {
			f, e1 := c.s.First(a)
			g, p, e2 := c.s.Of(a)
			l, e3 := c.s.Left(a)
			if f|g|p|l != 0 || e1 != api.ErrRange || e2 != api.ErrRange || e3 != api.ErrRange {
				t.Errorf("P3.1: %v at %d: %d %d, %d %d %d, %d %d", c.s, a, f, e1, g, p, e2, l, e3)
			}
		}
		if b, e := Encode(c.s); b != nil || e != api.ErrRange {
			t.Errorf("P3.1: %v is encoded: %v, %d", c.s, b, e)
		}
	}
}

// P3.1, P3.2
func TestSegments(t *testing.T) {
	for blocks := 64; blocks <= 4096; blocks += 61 {
		for size := 8; size <= 64; size += 7 {
			s := Super{blocks, size, 9}
			want := (blocks - 3) / size
			if want < 6 {
				want = 0
			}
			if s.Segs() != want {
				t.Fatalf("P3.1: %v: %d segments", s, s.Segs())
			}
			addr := 3
			for seg := range want {
				if f, e := s.First(seg); f != addr || e != api.OK {
					t.Fatalf("P3.1: %v: First(%d): %d, %d", s, seg, f, e)
				}
				for place := range size {
					g, p, e := s.Of(addr)
					l, e2 := s.Left(addr)
					if g != seg || p != place || l != size-place || e != api.OK || e2 != api.OK || addr >= blocks {
						t.Fatalf("P3.2: %v at %d: %d, %d, %d", s, addr, g, p, l)
					}
					addr++
				}
			}
			for _, a := range []int{math.MinInt, -1, 0, 2, addr, blocks, math.MaxInt} {
				if want == 0 {
					break
				}
				g, p, e := s.Of(a)
				l, e2 := s.Left(a)
				if g|p|l != 0 || e != api.ErrRange || e2 != api.ErrRange {
					t.Fatalf("P3.1: %v at %d: %d, %d, %d, %d", s, a, g, p, l, e)
				}
			}
			for _, g := range []int{math.MinInt, -1, want, math.MaxInt} {
				if f, e := s.First(g); f != 0 || e != api.ErrRange {
					t.Fatalf("P3.1: %v: First(%d): %d, %d", s, g, f, e)
				}
			}
		}
	}
}

// P3.1, P3.2
func TestBlocks(t *testing.T) {
	b, e := Encode(Super{0x1234 & 0xfff, 0x21, 0x43})
	want := append([]byte("MARL\x34\x02\x00\x00\x21\x00\x00\x00\x43\x00\x00\x00"), make([]byte, 44)...)
	if e != api.OK || !bytes.Equal(b, sum.Seal(want)) {
		t.Errorf("P3.1: % x, %d", b, e)
	}
	for _, s := range []Super{{64, 8, 4}, {4096, 64, 200}, {4096, 8, 77}, {1000, 33, 5}} {
		b, _ := Encode(s)
		if d, e := Decode(b); d != s || e != api.OK {
			t.Errorf("P3.2: %v: %v, %d", s, d, e)
		}
	}
}

// P3.2
func TestOtherBlocks(t *testing.T) {
	b, _ := Encode(Super{100, 16, 20})
	for _, c := range [][]byte{nil, b[:63], append(bytes.Clone(b), 0), b[:60]} {
		if s, e := Decode(c); s != (Super{}) || e != api.ErrForm {
			t.Errorf("P3.1: %d bytes: %v, %d", len(c), s, e)
		}
	}
	for i := range 512 {
		c := bytes.Clone(b)
		c[i/8] ^= 1 << (i % 8)
		if s, e := Decode(c); s != (Super{}) || e != api.ErrSum {
			t.Errorf("P3.1: bit %d turned: %v, %d", i, s, e)
		}
	}
	r := rand.New(rand.NewSource(1))
	for i := range 60 {
		c := bytes.Clone(b[:60])
		c[i] ^= byte(1 + r.Intn(255))
		c = sum.Seal(c)
		s, e := Decode(c)
		if e == api.OK {
			if again, _ := Encode(s); !bytes.Equal(again, c) {
				t.Errorf("P3.2: byte %d turned: %v", i, s)
			}
		} else if e != api.ErrForm || s != (Super{}) {
			t.Errorf("P3.1: byte %d turned: %v, %d", i, s, e)
		}
		if i < 4 && e == api.OK || i >= 16 && e == api.OK {
			t.Errorf("P3.2: byte %d turned is decoded", i)
		}
	}
	for _, v := range [][3]byte{{63, 8, 4}, {64, 7, 4}, {64, 8, 3}, {64, 8, 201}, {64, 11, 4}} {
		c := sum.Seal(append([]byte{'M', 'A', 'R', 'L', v[0], 0, 0, 0, v[1], 0, 0, 0, v[2], 0, 0, 0}, make([]byte, 44)...))
		if s, e := Decode(c); s != (Super{}) || e != api.ErrForm {
			t.Errorf("P3.1: %v: %v, %d", v, s, e)
		}
	}
}

// P3.3
func TestNothingIsShared(t *testing.T) {
	b, _ := Encode(Super{100, 16, 20})
	was := bytes.Clone(b)
	room := append(bytes.Clone(b), 1, 2, 3)
	Decode(room[:64])
	if !bytes.Equal(room[:64], was) || !bytes.Equal(room[64:], []byte{1, 2, 3}) {
		t.Error("P3.3: what is handed in is changed")
	}
	b[0] = 0
	if c, _ := Encode(Super{100, 16, 20}); !bytes.Equal(c, was) {
		t.Error("P3.3: answers share")
	}
}
