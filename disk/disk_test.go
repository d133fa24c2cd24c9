package disk_test

import (
	"bytes"
	"math/rand"
	"slices"
	"testing"

	"marl/api"
	. "marl/disk"
)

func full(x byte) []byte { return bytes.Repeat([]byte{x}, api.Block) }

func made(t *testing.T, n int) *Disk {
	t.Helper()
	d, e := New(n)
	if e != api.OK {
		t.Fatalf("P2.1: New(%d): %d", n, e)
	}
	return d
}

func read(t *testing.T, d *Disk, i int) []byte {
	t.Helper()
	b, e := d.Read(i)
	if e != api.OK || len(b) != api.Block {
		t.Fatalf("P2.1: Read(%d): %v, %d", i, b, e)
	}
	return b
}

// P2.1
func TestSizesOfNew(t *testing.T) {
	for _, n := range []int{-1 << 63, -1, 0, 4097, 1<<63 - 1} {
		if d, e := New(n); d != nil || e != api.ErrRange {
			t.Errorf("P2.1: New(%d): %v, %d", n, d, e)
		}
	}
	for _, n := range []int{1, 2, 4096} {
		d := made(t, n)
		if d.Size() != n || d.Steps() != 0 || len(d.Queue()) != 0 {
			t.Errorf("P2.1: New(%d) has size %d, %d steps, queue %v", n, d.Size(), d.Steps(), d.Queue())
		}
		if !bytes.Equal(read(t, d, n-1), full(0)) {
			t.Errorf("P2.1: not all zero")
		}
	}
}

// P2.1
func TestRefusals(t *testing.T) {
	d := made(t, 3)
	for _, c := range []struct {
		i int
		b []byte
	}{{-1, full(1)}, {3, full(1)}, {1 << 62, full(1)}, {0, nil}, {0, full(1)[:63]}, {0, append(full(1), 1)}} {
		if e := d.Write(c.i, c.b); e != api.ErrRange {
			t.Errorf("P2.1: Write(%d) of %d bytes: %d", c.i, len(c.b), e)
		}
	}
	for _, i := range []int{-1, 3, -1 << 63} {
		if b, e := d.Read(i); b != nil || e != api.ErrRange {
			t.Errorf("P2.1: Read(%d): %v, %d", i, b, e)
		}
	}
	if d.Arm(-1) != api.ErrRange || d.Steps() != 0 {
		t.Error("P2.1: a refused call is no step")
	}
	if d.Arm(0) != api.OK || d.Write(0, full(1)) != api.ErrDead || d.Barrier() != api.ErrDead || d.Arm(5) != api.ErrDead || d.Arm(-1) != api.ErrRange || d.Write(9, full(1)) != api.ErrRange {
		t.Error("P2.1: what a dead disk answers")
	}
	if d.Steps() != 0 || len(d.Queue()) != 0 || !bytes.Equal(read(t, d, 0), full(0)) {
		t.Error("P2.1: a dead disk stays as it is")
	}
}

// P2.1
func TestArmed(t *testing.T) {
	d := made(t, 3)
	if d.Arm(1) != api.OK || d.Arm(3) != api.OK || d.Write(0, full(1)) != api.OK || d.Barrier() != api.OK || d.Write(1, full(2)) != api.OK {
		t.Fatal("P2.1: three steps are done")
	}
	if d.Write(2, full(3)) != api.ErrDead || d.Barrier() != api.ErrDead || d.Steps() != 3 {
		t.Errorf("P2.1: it is dead; %d steps", d.Steps())
	}
	if !bytes.Equal(read(t, d, 1), full(2)) || !slices.Equal(d.Queue(), []int{1}) {
		t.Error("P2.1: a dead disk is read with its queue")
	}
	c := d.Crash(nil, -1, 0)
	if c.Steps() != 0 || len(c.Queue()) != 0 || c.Size() != 3 || c.Write(2, full(3)) != api.OK {
		t.Error("P2.1: a crashed one isn't armed, has no steps and no queue")
	}
	if !bytes.Equal(read(t, c, 0), full(1)) || !bytes.Equal(read(t, c, 1), full(0)) {
		t.Error("P2.2: what was sure is there, the rest isn't")
	}
}

// P2.1, P2.2
func TestExampleOfTheChapter(t *testing.T) {
	d := made(t, 2)
	d.Write(1, full(1))
	d.Write(1, full(2))
	if !slices.Equal(d.Queue(), []int{1, 1}) {
		t.Errorf("P2.1: %v", d.Queue())
	}
	b := read(t, d.Crash([]bool{true}, 1, 2), 1)
	want := append(append(full(1)[:16:16], full(2)[:16]...), full(1)[:32]...)
	if !bytes.Equal(b, want) {
		t.Errorf("P2.1: % x", b)
	}
	if !bytes.Equal(read(t, d, 1), full(2)) || len(d.Queue()) != 2 {
		t.Error("P2.1: the disk itself stays")
	}
}

// told is a write that isn't sure yet.
type told struct {
	at   int
	data []byte
}

// model is a disk told plainly: lists of writes, replayed.
type model struct {
	sure  map[int][]byte
	queue []told
}

func (m *model) crash(keep []bool, torn, sectors, i int) []byte {
	b := bytes.Clone(m.sure[i])
	if b == nil {
		b = full(0)
	}
	for k, w := range m.queue {
		for j := range b {
			if w.at == i && (k < len(keep) && keep[k] || k == torn && sectors&(1<<(j/16)) != 0) {
				b[j] = w.data[j]
			}
		}
	}
	return b
}

// P2.1, P2.2
func TestRandomCalls(t *testing.T) {
	for seed := range 60 {
		r := rand.New(rand.NewSource(int64(seed)))
		n := 1 + r.Intn(5)
		d, m := made(t, n), &model{sure: map[int][]byte{}}
		steps, left := 0, -1
		for range 120 {
			switch r.Intn(8) {
			case 0:
				if e := d.Barrier(); (e == api.OK) != (left != 0) {
					t.Fatalf("P2.1: Barrier: %d with %d left", e, left)
				} else if e == api.OK {
					for _, w := range m.queue {
						m.sure[w.at] = bytes.Clone(w.data)
					}
					m.queue = nil
					steps, left = steps+1, left-1
				}
			case 1:
				keep := make([]bool, r.Intn(len(m.queue)+2))
				for k := range keep {
					keep[k] = r.Intn(2) == 0
				}
				torn, sectors := r.Intn(len(m.queue)+2)-1, r.Intn(40)-4
				c := d.Crash(keep, torn, sectors)
				for i := range n {
					if !bytes.Equal(read(t, c, i), m.crash(keep, torn, sectors, i)) {
						t.Fatalf("P2.2: block %d of a crash %v %d %d", i, keep, torn, sectors)
					}
				}
				if r.Intn(4) == 0 {
					was := m.sure
					m.sure = map[int][]byte{}
					for i := range n {
						m.sure[i] = (&model{was, m.queue}).crash(keep, torn, sectors, i)
					}
					d, m.queue, steps, left = c, nil, 0, -1
				}
			case 2:
				if r.Intn(10) == 0 && left != 0 {
					left = r.Intn(20)
					if e := d.Arm(left); e != api.OK {
						t.Fatalf("P2.1: Arm: %d", e)
					}
				}
			default:
				i, b := r.Intn(n), make([]byte, 64)
				r.Read(b)
				if e := d.Write(i, b); (e == api.OK) != (left != 0) {
					t.Fatalf("P2.1: Write: %d with %d left", e, left)
				} else if e == api.OK {
					m.queue = append(m.queue, told{i, b})
					steps, left = steps+1, left-1
				}
			}
			left = max(left, -1)
			if d.Steps() != steps || len(d.Queue()) != len(m.queue) {
				t.Fatalf("P2.1: %d steps, want %d", d.Steps(), steps)
			}
			all := slices.Repeat([]bool{true}, len(m.queue))
			for i := range n {
				if !bytes.Equal(read(t, d, i), m.crash(all, -1, 0, i)) {
					t.Fatalf("P2.1: block %d", i)
				}
			}
		}
	}
}

// P2.3
func TestNothingIsKeptOrShared(t *testing.T) {
	d := made(t, 2)
	b := full(1)
	d.Write(0, b)
	b[0] = 9
	if read(t, d, 0)[0] != 1 || read(t, d.Crash([]bool{true}, 0, 0), 0)[0] != 1 {
		t.Error("P2.3: what was handed in is kept")
	}
	read(t, d, 0)[1] = 9
	d.Queue()[0] = 9
	if read(t, d, 0)[1] != 1 || d.Queue()[0] != 0 {
		t.Error("P2.3: an answer shares")
	}
	c := d.Crash([]bool{true}, 0, 0)
	c.Write(0, full(5))
	c.Barrier()
	if read(t, d, 0)[1] != 1 {
		t.Error("P2.3: a Crash is no disk of its own")
	}
	d.Write(0, full(7))
	d.Barrier()
	if read(t, c, 0)[1] != 5 {
		t.Error("P2.3: a Crash is no disk of its own")
	}
	keep := []bool{false, true}
	d.Crash(keep, 0, 1)
	if keep[0] || !keep[1] {
		t.Error("P2.3: keep is changed")
	}
}

// P2.1: sectors below 0 has all high bits; torn may be any number.
func TestOddCrashes(t *testing.T) {
	d := made(t, 1)
	d.Write(0, full(3))
	if !bytes.Equal(read(t, d.Crash(nil, 0, -1), 0), full(3)) {
		t.Error("P2.1: all bits are set")
	}
	for _, torn := range []int{-1 << 63, -1, 1, 1<<63 - 1} {
		if !bytes.Equal(read(t, d.Crash(nil, torn, 15), 0), full(0)) {
			t.Errorf("P2.1: torn %d", torn)
		}
	}
	if !bytes.Equal(read(t, d.Crash([]bool{false, true, true}, 0, 16), 0), full(0)) {
		t.Error("P2.1: only the bits 0 to 3 count")
	}
}
