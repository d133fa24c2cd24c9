package entry_test

import (
	"bytes"
	"math"
	"math/rand"
	"strings"
	"testing"

	"marl/api"
	. "marl/entry"
)

// P7.1
func TestNames(t *testing.T) {
	for s, want := range map[string]api.Errno{
		"a": api.OK, "12345678901234": api.OK, "123456789012345": api.ErrName, "///////////////": api.ErrName, "": api.ErrRange, ".": api.ErrRange, "..": api.ErrRange,
		"...": api.OK, ".a": api.OK, "a/b": api.ErrRange, "/": api.ErrRange, "a\x00": api.ErrRange, "\x00": api.ErrRange, "\xff\xfe": api.OK, "äöüäöüä": api.OK, " ": api.OK, "äöüäöüäö": api.ErrName,
	} {
		if e := Name(s); e != want {
			t.Errorf("P7.1: Name(%q): %d, want %d", s, e, want)
		}
	}
}

// P7.1
func TestBlocksOfZeros(t *testing.T) {
	z := make([]byte, 64)
	if l, e := ReadMap(z); l != [8]MapEntry{} || e != api.OK {
		t.Errorf("P7.1: %v, %d", l, e)
	}
	if l, e := ReadDir(z); l != [4]DirEntry{} || e != api.OK {
		t.Errorf("P7.1: %v, %d", l, e)
	}
	if b, e := MapBlock([8]MapEntry{}); !bytes.Equal(b, z) || e != api.OK {
		t.Errorf("P7.1: % x, %d", b, e)
	}
	if b, e := DirBlock([4]DirEntry{}); !bytes.Equal(b, z) || e != api.OK {
		t.Errorf("P7.1: % x, %d", b, e)
	}
}

// P7.1, P7.2
func TestMapBlocks(t *testing.T) {
	b, e := MapBlock([8]MapEntry{1: {0x123, 0x4567}, 7: {4095, 65535}})
	want := make([]byte, 64)
	copy(want[8:], []byte{0x23, 1, 0, 0, 0x67, 0x45})
	copy(want[56:], []byte{0xff, 0xf, 0, 0, 0xff, 0xff})
	if e != api.OK || !bytes.Equal(b, want) {
		t.Errorf("P7.1: % x, %d", b, e)
	}
	for _, m := range []MapEntry{{-1, 0}, {4096, 0}, {0, -1}, {0, 65536}, {math.MinInt, 0}, {1 << 32, 0}, {0, math.MaxInt}} {
		for i := range 8 {
			var l [8]MapEntry
			l[i] = m
			if b, e := MapBlock(l); b != nil || e != api.ErrRange {
				t.Errorf("P7.1: %v: %v, %d", l, b, e)
			}
		}
	}
	r := rand.New(rand.NewSource(1))
	for range 300 {
		var l [8]MapEntry
		for i := range l {
			l[i] = MapEntry{r.Intn(4096), r.Intn(65536)}
		}
		b, _ := MapBlock(l)
		if m, e := ReadMap(b); m != l || e != api.OK {
			t.Fatalf("P7.2: %v comes out as %v, %d", l, m, e)
		}
	}
}

// P7.1, P7.2
func TestOtherMapBlocks(t *testing.T) {
	for _, n := range []int{0, 1, 63, 65} {
		if l, e := ReadMap(make([]byte, n)); l != [8]MapEntry{} || e != api.ErrForm {
			t.Errorf("P7.1: %d bytes: %v, %d", n, l, e)
		}
	}
	for i := range 64 {
		for _, v := range []byte{1, 15, 16, 255} {
			b := make([]byte, 64)
			b[i] = v
			ok := i%8 == 0 || i%8 == 1 && v < 16 || i%8 == 4 || i%8 == 5
			l, e := ReadMap(b)
			if ok != (e == api.OK) || !ok && (e != api.ErrForm || l != [8]MapEntry{}) {
				t.Errorf("P7.2: byte %d is %d: %v, %d", i, v, l, e)
			}
		}
	}
}

// P7.1, P7.2
func TestDirBlocks(t *testing.T) {
	b, e := DirBlock([4]DirEntry{{2, "a"}, {}, {200, "12345678901234"}, {7, "\xff."}})
	want := make([]byte, 64)
	copy(want, "\x02\x00a")
	copy(want[32:], "\xc8\x0012345678901234")
	copy(want[48:], "\x07\x00\xff.")
	if e != api.OK || !bytes.Equal(b, want) {
		t.Errorf("P7.1: % x, %d", b, e)
	}
	if l, e := ReadDir(b); l != [4]DirEntry{{2, "a"}, {}, {200, "12345678901234"}, {7, "\xff."}} || e != api.OK {
		t.Errorf("P7.2: %v, %d", l, e)
	}
	for _, d := range []DirEntry{{0, "a"}, {1, ""}, {201, "a"}, {-1, "a"}, {1, "."}, {1, ".."}, {1, "a/"}, {1, "a\x00"}, {1, "123456789012345"}, {-1, ""}, {math.MaxInt, "a"}, {65537, "a"}} {
		for i := range 4 {
			l := [4]DirEntry{{1, "x"}, {1, "x"}, {}, {1, "x"}}
			l[i] = d
			if b, e := DirBlock(l); b != nil || e != api.ErrRange {
				t.Errorf("P7.1: %v: %v, %d", l, b, e)
			}
		}
	}
}

// P7.2
func TestOtherDirBlocks(t *testing.T) {
	for _, n := range []int{0, 1, 63, 65} {
		if l, e := ReadDir(make([]byte, n)); l != [4]DirEntry{} || e != api.ErrForm {
			t.Errorf("P7.1: %d bytes: %v, %d", n, l, e)
		}
	}
	for s, ok := range map[string]bool{
		"\x01\x00a": true, "\x01\x00": false, "\x00\x00a": false, "\xc8\x00a": true, "\xc9\x00a": false, "\x01\x01a": false, "\x01\x00a\x00b": false,
		"\x01\x00.": false, "\x01\x00..": false, "\x01\x00...": true, "\x01\x00a/b": false, "\x01\x0012345678901234": true, "\x00\x00\x00a": false, "\x00\x01": false,
		"\x01\x00\x00a": false,
	} {
		for at := 0; at < 64; at += 16 {
			b := make([]byte, 64)
			copy(b[at:], s)
			l, e := ReadDir(b)
			if ok != (e == api.OK) || !ok && (e != api.ErrForm || l != [4]DirEntry{}) {
				t.Errorf("P7.2: %q at %d: %v, %d", s, at, l, e)
			}
		}
	}
	r := rand.New(rand.NewSource(2))
	for range 2000 {
		b, _ := DirBlock([4]DirEntry{{1, "ab"}, {}, {3, strings.Repeat("x", 14)}, {4, "y"}})
		b[r.Intn(64)] = byte(r.Intn(256) >> r.Intn(8))
		if l, e := ReadDir(b); e == api.OK {
			if again, e := DirBlock(l); e != api.OK || !bytes.Equal(again, b) {
				t.Fatalf("P7.2: % x is read as %v", b, l)
			}
		} else if e != api.ErrForm || l != [4]DirEntry{} {
			t.Fatalf("P7.1: % x: %v, %d", b, l, e)
		}
	}
}

// P7.3
func TestNothingIsShared(t *testing.T) {
	room := make([]byte, 70)
	copy(room, "\x01\x00abc")
	l, _ := ReadDir(room[:64])
	ReadMap(room[:64])
	was := bytes.Clone(room)
	room[2] = 'x'
	if l[0].Name != "abc" {
		t.Error("P7.3: an answer shares")
	}
	room[2] = 'a'
	if !bytes.Equal(room, was) {
		t.Error("P7.3: what is handed in is changed")
	}
	b, _ := MapBlock([8]MapEntry{})
	b[0] = 1
	if c, _ := MapBlock([8]MapEntry{}); c[0] != 0 {
		t.Error("P7.3: answers share")
	}
}
