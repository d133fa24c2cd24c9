package sum_test

import (
	"bytes"
	"math/rand"
	"testing"

	"marl/api"
	. "marl/sum"
)

// slow is the chapter's rule, bit by bit.
func slow(b []byte) uint32 {
	c := uint32(0xffffffff)
	for _, x := range b {
		c ^= uint32(x)
		for i := 0; i < 8; i++ {
			if c&1 == 1 {
				c = c>>1 ^ 0xedb88320
			} else {
				c >>= 1
			}
		}
	}
	return ^c
}

func someBytes(r *rand.Rand, n int) []byte {
	b := make([]byte, n)
	r.Read(b)
	return b
}

// P1.1
func TestSumsOfTheChapter(t *testing.T) {
	if s := Sum([]byte("123456789")); s != 0xcbf43926 {
		t.Errorf("P1.1: %08x", s)
	}
	if Sum(nil) != 0 || Sum([]byte{}) != 0 || Parts(nil) != 0 || More(0, nil) != 0 {
		t.Error("P1.1: the sum of none is 0")
	}
}

// P1.1
func TestSumIsTheBitwiseRule(t *testing.T) {
	r := rand.New(rand.NewSource(1))
	for x := 0; x < 256; x++ {
		if Sum([]byte{byte(x)}) != slow([]byte{byte(x)}) {
			t.Fatalf("P1.1: byte %d", x)
		}
	}
	for range 500 {
		b := someBytes(r, r.Intn(300))
		if Sum(b) != slow(b) {
			t.Fatalf("P1.1: % x", b)
		}
		k := r.Intn(len(b) + 1)
		if More(Sum(b[:k]), b[k:]) != slow(b) {
			t.Fatalf("P1.1: More of % x at %d", b, k)
		}
		j := k + r.Intn(len(b)-k+1)
		if Parts([][]byte{b[:k], nil, b[k:j], {}, b[j:]}) != slow(b) {
			t.Fatalf("P1.1: Parts of % x at %d, %d", b, k, j)
		}
	}
}

// P1.1
func TestSealAndOpen(t *testing.T) {
	r := rand.New(rand.NewSource(2))
	for n := range 200 {
		b := someBytes(r, n)
		s := Seal(b)
		c := slow(b)
		want := append(bytes.Clone(b), byte(c), byte(c>>8), byte(c>>16), byte(c>>24))
		if !bytes.Equal(s, want) {
			t.Fatalf("P1.1: Seal: % x, want % x", s, want)
		}
		if o, e := Open(s); e != api.OK || !bytes.Equal(o, b) {
			t.Fatalf("P1.1: Open: % x, %d", o, e)
		}
		s[r.Intn(len(s))] ^= 1 << r.Intn(8)
		if o, e := Open(s); e != api.ErrSum || o != nil {
			t.Fatalf("P1.1: Open of what is turned: % x, %d", o, e)
		}
	}
	for n := range 4 {
		if o, e := Open(make([]byte, n)); e != api.ErrForm || o != nil {
			t.Errorf("P1.1: Open of %d bytes: %v, %d", n, o, e)
		}
	}
	if o, e := Open(make([]byte, 4)); e != api.OK || len(o) != 0 {
		t.Errorf("P1.1: Open of four zeros: %v, %d", o, e)
	}
}

// P1.2
func TestTurnedBits(t *testing.T) {
	r := rand.New(rand.NewSource(3))
	for _, n := range []int{1, 5, 64, 2000} {
		b := someBytes(r, n)
		was := Sum(b)
		for range 2000 {
			i, j := r.Intn(n*8), r.Intn(n*8)
			b[i/8] ^= 1 << (i % 8)
			if Sum(b) == was {
				t.Fatalf("P1.2: bit %d of %d bytes", i, n)
			}
			if i != j {
				b[j/8] ^= 1 << (j % 8)
				if Sum(b) == was {
					t.Fatalf("P1.2: bits %d, %d of %d bytes", i, j, n)
				}
				b[j/8] ^= 1 << (j % 8)
			}
			b[i/8] ^= 1 << (i % 8)
		}
	}
}

// P1.2
func TestTurnedRuns(t *testing.T) {
	r := rand.New(rand.NewSource(4))
	b := someBytes(r, 2000)
	was := Sum(b)
	for range 2000 {
		at, bits := r.Intn(2000*8-32), r.Uint32()|1
		for k := range 32 {
			if bits>>k&1 == 1 {
				b[(at+k)/8] ^= 1 << ((at + k) % 8)
			}
		}
		if Sum(b) == was {
			t.Fatalf("P1.2: %08x turned at bit %d", bits, at)
		}
		for k := range 32 {
			if bits>>k&1 == 1 {
				b[(at+k)/8] ^= 1 << ((at + k) % 8)
			}
		}
	}
}

// P1.3
func TestNothingIsShared(t *testing.T) {
	room := append([]byte("12345"), 9, 9, 9, 9, 9, 9, 9)
	b := room[:5]
	s := Seal(b)
	if !bytes.Equal(room, append([]byte("12345"), 9, 9, 9, 9, 9, 9, 9)) {
		t.Errorf("P1.3: Seal wrote into spare room: % x", room)
	}
	s[0] = 'x'
	if b[0] != '1' {
		t.Error("P1.3: Seal shares")
	}
	s = append(Seal(b), 7, 7)[:9]
	o, e := Open(s)
	if e != api.OK {
		t.Fatalf("P1.1: %d", e)
	}
	o[0] = 'x'
	_ = append(o[:cap(o)], 1)
	if s[0] != '1' || cap(o) > 0 && &o[:cap(o)][cap(o)-1] == &s[cap(o)-1] {
		t.Error("P1.3: Open shares")
	}
	e0 := Seal(nil)
	if o, _ := Open(e0); cap(o) > 0 {
		t.Error("P1.3: an empty answer has room of the argument")
	}
}
