package inode_test

import (
	"bytes"
	"math"
	"math/rand"
	"testing"

	"marl/api"
	. "marl/inode"
	"marl/sum"
)

// P5.1
func TestWhatIsAnInode(t *testing.T) {
	for _, c := range []struct {
		n  api.Inode
		ok bool
	}{
		{api.Inode{Ino: 1}, true}, {api.Inode{Ino: 0}, false}, {api.Inode{Ino: 200}, true}, {api.Inode{Ino: 201}, false}, {api.Inode{Ino: math.MinInt}, false},
		{api.Inode{Ino: 1, Version: 65535}, true}, {api.Inode{Ino: 1, Version: 65536}, false}, {api.Inode{Ino: 1, Version: -1}, false},
		{api.Inode{Ino: 1, Kind: 2}, true}, {api.Inode{Ino: 1, Kind: 3}, false}, {api.Inode{Ino: 1, Kind: -1}, false},
		{api.Inode{Ino: 1, Links: 100}, true}, {api.Inode{Ino: 1, Links: 101}, false}, {api.Inode{Ino: 1, Links: -1}, false},
		{api.Inode{Ino: 1, Size: 38400}, true}, {api.Inode{Ino: 1, Size: 38401}, false}, {api.Inode{Ino: 1, Size: -1}, false}, {api.Inode{Ino: 1, Size: math.MaxInt}, false},
		{api.Inode{Ino: 1, Ptr: [9]uint32{math.MaxUint32, 8: math.MaxUint32}}, true},
	} {
		want := api.OK
		if !c.ok {
			want = api.ErrRange
		}
		if e := Check(c.n); e != want {
			t.Errorf("P5.1: Check(%v): %d", c.n, e)
		}
		b, e := Encode(c.n)
		if e != want || (b != nil) != c.ok {
			t.Errorf("P5.1: Encode(%v): %v, %d", c.n, b, e)
		}
		if n, e := Decode(b); c.ok && (n != c.n || e != api.OK) {
			t.Errorf("P5.2: %v comes out as %v, %d", c.n, n, e)
		}
	}
}

// P5.1
func TestAnInodesBytes(t *testing.T) {
	b, _ := Encode(api.Inode{Ino: 2, Kind: 2})
	if !bytes.HasPrefix(b, []byte{2, 0, 0, 0, 2}) {
		t.Errorf("P5.1: % x", b)
	}
	b, e := Encode(api.Inode{Ino: 0xc8, Version: 0x1234, Kind: 1, Links: 0x32, Size: 0x5678, Ptr: [9]uint32{0x01020304, 0, 0, 0, 0, 0, 0, 0, 0xa1b2c3d4}})
	want := append([]byte{0xc8, 0, 0x34, 0x12, 1, 0x32, 0x78, 0x56, 0, 0, 4, 3, 2, 1}, make([]byte, 46)...)
	copy(want[42:], []byte{0xd4, 0xc3, 0xb2, 0xa1})
	if e != api.OK || !bytes.Equal(b, sum.Seal(want)) {
		t.Errorf("P5.1: % x, %d", b, e)
	}
}

// P5.1, P5.2
func TestOtherBlocks(t *testing.T) {
	r := rand.New(rand.NewSource(1))
	b, _ := Encode(api.Inode{Ino: 200, Version: 7, Kind: 2, Links: 99, Size: 38399, Ptr: [9]uint32{1, 2, 3, 4, 5, 6, 7, 8, 9}})
	for _, c := range [][]byte{nil, b[:63], b[:60], append(bytes.Clone(b), 0)} {
		if n, e := Decode(c); n != (api.Inode{}) || e != api.ErrForm {
			t.Errorf("P5.1: %d bytes: %v, %d", len(c), n, e)
		}
	}
	for i := range 512 {
		c := bytes.Clone(b)
		c[i/8] ^= 1 << (i % 8)
		if n, e := Decode(c); n != (api.Inode{}) || e != api.ErrSum {
			t.Errorf("P5.1: bit %d turned: %v, %d", i, n, e)
		}
	}
	for i := range 60 {
		for range 20 {
			c := bytes.Clone(b[:60])
			c[i] = byte(r.Intn(256))
			c = sum.Seal(c)
			n, e := Decode(c)
			again, e2 := Encode(n)
			if e == api.OK && (e2 != api.OK || !bytes.Equal(again, c)) || e != api.OK && (e != api.ErrForm || n != (api.Inode{})) {
				t.Errorf("P5.2: byte %d is %d: %v, %d", i, c[i], n, e)
			}
			if i >= 46 && c[i] != 0 && e != api.ErrForm {
				t.Errorf("P5.2: byte %d isn't zero: %d", i, e)
			}
		}
	}
	for i, v := range map[int]byte{0: 0, 1: 1, 4: 3, 5: 101, 8: 1} {
		c := bytes.Clone(b[:60])
		c[i] = v
		if n, e := Decode(sum.Seal(c)); n != (api.Inode{}) || e != api.ErrForm {
			t.Errorf("P5.1: byte %d is %d: %v, %d", i, v, n, e)
		}
	}
}

// P5.1, P5.2
func TestPointersAndTheirBlocks(t *testing.T) {
	r := rand.New(rand.NewSource(2))
	for range 100 {
		b := make([]byte, 64)
		r.Read(b)
		p, e := Pointers(b)
		if e != api.OK || !bytes.Equal(Block(p), b) {
			t.Fatalf("P5.2: % x: %v, %d", b, p, e)
		}
		if i := r.Intn(16); p[i] != uint32(b[4*i])|uint32(b[4*i+1])<<8|uint32(b[4*i+2])<<16|uint32(b[4*i+3])<<24 {
			t.Fatalf("P5.1: pointer %d of % x: %x", i, b, p[i])
		}
	}
	for _, n := range []int{0, 1, 63, 65, 128} {
		if p, e := Pointers(bytes.Repeat([]byte{1}, n)); p != [16]uint32{} || e != api.ErrForm {
			t.Errorf("P5.1: Pointers of %d bytes: %v, %d", n, p, e)
		}
	}
}

// P5.1
func TestBlocks(t *testing.T) {
	for size, want := range map[int]int{0: 0, -1: 0, math.MinInt: 0, 1: 1, 64: 1, 65: 2, 128: 2, 129: 3, 38400: 600, math.MaxInt: 1 << 57} {
		if n := Blocks(size); n != want {
			t.Errorf("P5.1: Blocks(%d): %d", size, n)
		}
	}
}

// P5.3
func TestNothingIsShared(t *testing.T) {
	b, _ := Encode(api.Inode{Ino: 9})
	was := bytes.Clone(b)
	room := append(bytes.Clone(b), 1, 2, 3)
	Decode(room[:64])
	Pointers(room[:64])
	if !bytes.Equal(room, append(bytes.Clone(was), 1, 2, 3)) {
		t.Error("P5.3: what is handed in is changed")
	}
	b[0] = 1
	if c, _ := Encode(api.Inode{Ino: 9}); !bytes.Equal(c, was) {
		t.Error("P5.3: answers share")
	}
	p := Block([16]uint32{})
	p[0] = 1
	if Block([16]uint32{})[0] != 0 {
		t.Error("P5.3: answers share")
	}
}
