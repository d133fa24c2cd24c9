package seg_test

import (
	"bytes"
	"math"
	"math/rand"
	"slices"
	"testing"

	"marl/api"
	"marl/disk"
	"marl/geom"
	. "marl/seg"
	"marl/sum"
	"marl/summary"
)

func full(x byte) []byte { return bytes.Repeat([]byte{x}, api.Block) }

func made(t *testing.T, n int) *disk.Disk {
	t.Helper()
	d, e := disk.New(n)
	if e != api.OK {
		t.Fatal(e)
	}
	return d
}

// two is a partial segment of two items.
func two(next int) (api.Part, [][]byte) {
	return api.Part{Epoch: 3, Count: 4, Parts: 1, Next: next, Files: []api.Finfo{{Ino: 5, Lbns: []int{1}}}, Inos: []int{5}}, [][]byte{full(1), full(2)}
}

func same(a, b Found) bool {
	p, e := summary.Encode(a.Part, 0)
	q, e2 := summary.Encode(b.Part, 0)
	return e == e2 && a.Addr == b.Addr && bytes.Equal(p, q) && slices.EqualFunc(a.Blocks, b.Blocks, bytes.Equal)
}

func none(f Found) bool { return f.Addr == 0 && f.Blocks == nil && f.Part.Parts == 0 }

// P15.1
func TestStepByStep(t *testing.T) {
	p, blocks := two(20)
	queues := [][]int{{}, {12}, {12, 13}, {12, 13, 20}, {12, 13, 20, 21}, {}, {10}, {10, 11}, {}}
	for k, want := range queues {
		d := made(t, 30)
		d.Arm(k)
		e := Write(d, 10, p, blocks)
		if (k < 8) != (e == api.ErrDead) || k == 8 && e != api.OK {
			t.Errorf("P15.1: %d steps: %d", k, e)
		}
		if !slices.Equal(d.Queue(), want) || d.Steps() != k {
			t.Errorf("P15.1: %d steps: queue %v, %d", k, d.Queue(), d.Steps())
		}
	}
	d := made(t, 30)
	d.Write(20, full(9))
	d.Write(21, full(9))
	Write(d, 10, p, blocks)
	for i, want := range map[int][]byte{12: full(1), 13: full(2), 20: full(0), 21: full(0), 22: full(0)} {
		if b, _ := d.Read(i); !bytes.Equal(b, want) {
			t.Errorf("P15.1: block %d: % x", i, b)
		}
	}
	a, _ := d.Read(10)
	b, _ := d.Read(11)
	if q, s, e := summary.Decode(append(a, b...)); e != api.OK || s != sum.Sum(append(full(1), full(2)...)) || q.Next != 20 || q.Count != 4 {
		t.Errorf("P15.1: %v, %x, %d", q, s, e)
	}
}

// P15.1
func TestRefusedWrites(t *testing.T) {
	for i, c := range []struct {
		addr, next int
		change     func(p *api.Part, b *[][]byte)
		e          api.Errno
	}{
		{10, 20, func(p *api.Part, b *[][]byte) {}, api.OK},
		{10, 20, func(p *api.Part, b *[][]byte) { p.Parts = 0; *b = nil }, api.ErrRange},
		{10, 20, func(p *api.Part, b *[][]byte) { p.Inos = slices.Repeat([]int{1}, 80); *b = nil }, api.ErrBig},
		{10, 20, func(p *api.Part, b *[][]byte) { *b = (*b)[:1] }, api.ErrRange},
		{10, 20, func(p *api.Part, b *[][]byte) { *b = append(*b, full(3)) }, api.ErrRange},
		{10, 20, func(p *api.Part, b *[][]byte) { (*b)[1] = (*b)[1][:63] }, api.ErrRange},
		{10, 20, func(p *api.Part, b *[][]byte) { (*b)[0] = append((*b)[0], 1) }, api.ErrRange},
		{-1, 20, func(p *api.Part, b *[][]byte) {}, api.ErrRange},
		{0, 20, func(p *api.Part, b *[][]byte) {}, api.OK},
		{26, 20, func(p *api.Part, b *[][]byte) {}, api.OK},
		{27, 20, func(p *api.Part, b *[][]byte) {}, api.ErrRange},
		{math.MaxInt, 20, func(p *api.Part, b *[][]byte) {}, api.ErrRange},
		{math.MinInt, 20, func(p *api.Part, b *[][]byte) {}, api.ErrRange},
		{10, 28, func(p *api.Part, b *[][]byte) {}, api.OK},
		{10, 29, func(p *api.Part, b *[][]byte) {}, api.ErrRange},
		{10, 8, func(p *api.Part, b *[][]byte) {}, api.OK},
		{10, 9, func(p *api.Part, b *[][]byte) {}, api.ErrRange},
		{10, 10, func(p *api.Part, b *[][]byte) {}, api.ErrRange},
		{10, 13, func(p *api.Part, b *[][]byte) {}, api.ErrRange},
		{10, 14, func(p *api.Part, b *[][]byte) {}, api.OK},
	} {
		d := made(t, 30)
		p, b := two(c.next)
		c.change(&p, &b)
		if e := Write(d, c.addr, p, b); e != c.e || e != api.OK && d.Steps() != 0 {
			t.Errorf("P15.1: Write %d: %d, %d steps", i, e, d.Steps())
		}
		if f, e := Read(d, c.addr); c.e == api.OK && (e != api.OK || !same(f, Found{c.addr, p, b})) || c.e != api.OK && (e != api.ErrForm || !none(f)) {
			t.Errorf("P15.3: Write %d is read: %v, %d", i, f, e)
		}
	}
	d := made(t, 1)
	p, b := two(0)
	if e := Write(d, 0, p, b); e != api.ErrRange {
		t.Errorf("P15.1: on a disk of one block: %d", e)
	}
}

// P15.1
func TestClear(t *testing.T) {
	d := made(t, 8)
	for i := range 8 {
		d.Write(i, full(9))
	}
	d.Barrier()
	for _, a := range []int{-1, 7, 8, math.MaxInt, math.MinInt} {
		if e := Clear(d, a); e != api.ErrRange || d.Steps() != 9 {
			t.Errorf("P15.1: Clear(%d): %d", a, e)
		}
	}
	if e := Clear(d, 6); e != api.OK || d.Steps() != 12 || len(d.Queue()) != 0 {
		t.Errorf("P15.1: Clear: %d, %d steps", e, d.Steps())
	}
	for i, want := range []byte{9, 9, 9, 9, 9, 9, 0, 0} {
		if b, _ := d.Read(i); !bytes.Equal(b, full(want)) {
			t.Errorf("P15.1: block %d: % x", i, b)
		}
	}
	for k := range 3 {
		d := made(t, 8)
		d.Arm(k)
		if e := Clear(d, 0); e != api.ErrDead || d.Steps() != k {
			t.Errorf("P15.1: Clear with %d steps: %d", k, e)
		}
	}
	if e := Clear(made(t, 2), 0); e != api.OK {
		t.Errorf("P15.1: on a disk of two blocks: %d", e)
	}
	if e := Clear(made(t, 1), 0); e != api.ErrRange {
		t.Errorf("P15.1: on a disk of one block: %d", e)
	}
}

// P15.1
func TestReads(t *testing.T) {
	d := made(t, 20)
	p, b := two(0)
	Write(d, 16, p, b)
	for _, a := range []int{-1, 0, 15, 17, 19, 20, math.MaxInt, math.MinInt} {
		if f, e := Read(d, a); e != api.ErrForm || !none(f) {
			t.Errorf("P15.1: Read(%d): %v, %d", a, f, e)
		}
	}
	// The same summary, whose blocks the disk hasn't.
	for i := range 2 {
		x, _ := d.Read(17 - i)
		d.Write(18-i, x)
	}
	if f, e := Read(d, 17); e != api.ErrForm || !none(f) {
		t.Errorf("P15.1: beyond the disk: %v, %d", f, e)
	}
	d = made(t, 20)
	Write(d, 10, p, b)
	d.Write(13, full(3))
	if f, e := Read(d, 10); e != api.ErrSum || !none(f) {
		t.Errorf("P15.1: another sum: %v, %d", f, e)
	}
	Write(d, 10, api.Part{Parts: 1, Next: 4}, nil)
	if f, e := Read(d, 10); e != api.OK || len(f.Blocks) != 0 || f.Part.Next != 4 {
		t.Errorf("P15.1: without items: %v, %d", f, e)
	}
}

// P15.2
func TestPowerWithinAWrite(t *testing.T) {
	r := rand.New(rand.NewSource(1))
	for range 3000 {
		d := made(t, 30)
		p, b := two(20)
		// What stands elsewhere is by chance, and may be a partial segment's.
		for i := range 10 {
			x := make([]byte, 64)
			r.Read(x)
			d.Write(12+i, x)
		}
		if r.Intn(2) == 0 {
			old, ob := two(25)
			old.Count = r.Intn(6)
			Write(d, 20, old, ob)
		}
		Clear(d, 10)
		steps := r.Intn(10)
		d.Arm(steps)
		e := Write(d, 10, p, b)
		c := crash(r, d)
		f, e2 := Read(c, 10)
		whole := e2 == api.OK && same(f, Found{10, p, b})
		if !whole && e2 != api.ErrForm || e == api.OK && !whole || steps < 5 && whole {
			t.Fatalf("P15.2: %d steps: %v, %d", steps, f, e2)
		}
		if _, e := Read(c, 20); whole && e != api.ErrForm {
			t.Fatalf("P15.2: there is something at its Next: %d", e)
		}
	}
}

func crash(r *rand.Rand, d *disk.Disk) *disk.Disk {
	n := len(d.Queue())
	keep := make([]bool, n)
	for k := range keep {
		keep[k] = r.Intn(2) == 0
	}
	return d.Crash(keep, r.Intn(n+1), r.Intn(16))
}

// log writes a batch: each part at an address with a Next.
func log(t *testing.T, d *disk.Disk, epoch, count int, ats ...int) {
	t.Helper()
	for i, at := range ats[:len(ats)-1] {
		p := api.Part{Epoch: epoch, Count: count + i, Index: i, Parts: len(ats) - 1, Next: ats[i+1], Inos: []int{7}}
		if e := Write(d, at, p, [][]byte{full(byte(at))}); e != api.OK {
			t.Fatalf("P15.1: Write at %d: %d", at, e)
		}
	}
}

// P15.1, P15.3
func TestScan(t *testing.T) {
	s := geom.Super{Blocks: 64, SegBlocks: 8, Inodes: 9}
	lay := func() *disk.Disk {
		d := made(t, 64)
		log(t, d, 5, 10, 3, 6, 19)
		log(t, d, 5, 12, 19, 30)
		log(t, d, 5, 13, 30, 40, 11, 46)
		return d
	}
	scan := func(d *disk.Disk, s geom.Super, addr, epoch, count int, batches, next, at int) {
		t.Helper()
		l, n, c := Scan(d, s, addr, epoch, count)
		if len(l) != batches || n != next || c != at {
			t.Errorf("P15.1: %d batches, %d, %d, want %d, %d, %d", len(l), n, c, batches, next, at)
		}
	}
	d := lay()
	scan(d, s, 3, 5, 10, 3, 46, 16)
	scan(d, s, 19, 5, 12, 2, 46, 16)
	scan(d, s, 3, 5, 11, 0, 3, 11)
	scan(d, s, 3, 4, 10, 0, 3, 10)
	scan(d, s, 6, 5, 11, 0, 6, 11)
	scan(d, s, -1, 5, 10, 0, -1, 10)
	scan(d, s, math.MaxInt, 5, math.MaxInt, 0, math.MaxInt, math.MaxInt)
	scan(d, geom.Super{}, 3, 5, 10, 0, 3, 10)
	scan(d, geom.Super{Blocks: 65, SegBlocks: 8, Inodes: 9}, 3, 5, 10, 0, 3, 10)
	l, _, _ := Scan(d, s, 3, 5, 10)
	var ats []int
	for _, b := range l {
		for _, f := range b {
			ats = append(ats, f.Addr)
			if g, e := Read(d, f.Addr); e != api.OK || !same(f, g) {
				t.Errorf("P15.3: at %d: %v", f.Addr, f)
			}
		}
	}
	if !slices.Equal(ats, []int{3, 6, 19, 30, 40, 11}) {
		t.Errorf("P15.1: %v", ats)
	}
	// What isn't whole isn't scanned: a part's data, its summary.
	for _, c := range [][3]int{{11, 2, 30}, {13, 2, 30}, {40, 2, 30}, {21, 1, 19}, {8, 0, 3}, {3, 0, 3}} {
		d := lay()
		d.Write(c[0], full(77))
		scan(d, s, 3, 5, 10, c[1], c[2], map[int]int{2: 13, 1: 12, 0: 10}[c[1]])
	}
}

// P15.1, P15.3
func TestNoBatches(t *testing.T) {
	s := geom.Super{Blocks: 64, SegBlocks: 8, Inodes: 9}
	part := func(epoch, count, index, parts, next, items int) (api.Part, [][]byte) {
		return api.Part{Epoch: epoch, Count: count, Index: index, Parts: parts, Next: next, Inos: slices.Repeat([]int{3}, items)}, slices.Repeat([][]byte{full(1)}, items)
	}
	for i, c := range []struct{ epoch, count, index, parts, at, items, want int }{
		{1, 1, 1, 2, 20, 1, 1}, // whole
		{1, 2, 1, 2, 20, 1, 0}, // another Count
		{2, 1, 1, 2, 20, 1, 0}, // another Epoch
		{1, 1, 2, 3, 20, 1, 0}, // another Index, another Parts
		{1, 1, 1, 3, 20, 1, 0}, // another Parts
		{1, 1, 0, 2, 20, 1, 0}, // another Index
		{1, 1, 0, 1, 20, 1, 0}, // a batch of its own within
		{1, 1, 1, 2, 19, 6, 1}, // a whole segment
		{1, 1, 1, 2, 20, 6, 0}, // beyond its segment
		{1, 1, 1, 2, 58, 1, 0}, // no segment
	} {
		d := made(t, 64)
		p, b := part(1, 0, 0, 2, c.at, 1)
		if e := Write(d, 3, p, b); e != api.OK {
			t.Fatal(e)
		}
		p, b = part(c.epoch, c.count, c.index, c.parts, 50, c.items)
		if e := Write(d, c.at, p, b); e != api.OK {
			t.Fatal(e)
		}
		l, next, count := Scan(d, s, 3, 1, 0)
		if len(l) != c.want || c.want == 1 && (next != 50 || count != 2) || c.want == 0 && (next != 3 || count != 0) {
			t.Errorf("P15.3: %d: %d batches, %d, %d", i, len(l), next, count)
		}
	}
	// One that would end a batch of fewer than the first tells.
	fewer := made(t, 64)
	p, b := part(1, 0, 0, 3, 20, 1)
	Write(fewer, 3, p, b)
	p, b = part(1, 1, 1, 2, 50, 1)
	Write(fewer, 20, p, b)
	if l, next, count := Scan(fewer, s, 3, 1, 0); len(l) != 0 || next != 3 || count != 0 {
		t.Errorf("P15.3: %d batches, %d, %d", len(l), next, count)
	}
	// The last Count that there is.
	d := made(t, 64)
	p, b = part(1, 65535, 0, 1, 3, 1)
	p.Next = 30
	Write(d, 3, p, b)
	if l, next, count := Scan(d, s, 3, 1, 65535); len(l) != 1 || next != 30 || count != 65536 {
		t.Errorf("P15.1: %d batches, %d, %d", len(l), next, count)
	}
}

// P15.1
func TestWalk(t *testing.T) {
	s := geom.Super{Blocks: 64, SegBlocks: 8, Inodes: 9}
	ats := func(d *disk.Disk, seg int) []int {
		l := []int{}
		for _, f := range Walk(d, s, seg) {
			l = append(l, f.Addr)
			if g, e := Read(d, f.Addr); e != api.OK || !same(f, g) {
				t.Errorf("P15.1: %v isn't what is read", f)
			}
		}
		return l
	}
	d := made(t, 64)
	log(t, d, 9, 1, 11, 40)
	log(t, d, 2, 7, 14, 40)
	if l := ats(d, 1); !slices.Equal(l, []int{11, 14}) {
		t.Errorf("P15.1: %v", l)
	}
	for _, seg := range []int{-1, 0, 2, 7, math.MaxInt, math.MinInt} {
		if l := ats(d, seg); len(l) != 0 {
			t.Errorf("P15.1: segment %d: %v", seg, l)
		}
	}
	if l := Walk(d, geom.Super{}, 1); len(l) != 0 {
		t.Errorf("P15.1: no geometry: %v", l)
	}
	// One that goes on into the next segment, and one just behind the end.
	d = made(t, 64)
	log(t, d, 1, 1, 11, 40)
	p := api.Part{Parts: 1, Next: 40, Inos: []int{1, 2, 3, 4}}
	Write(d, 14, p, slices.Repeat([][]byte{full(1)}, 4))
	if l := ats(d, 1); !slices.Equal(l, []int{11}) {
		t.Errorf("P15.1: beyond its segment: %v", l)
	}
	p.Inos = p.Inos[:3]
	Write(d, 14, p, slices.Repeat([][]byte{full(1)}, 3))
	log(t, d, 1, 1, 19, 40)
	if l := ats(d, 1); !slices.Equal(l, []int{11, 14}) {
		t.Errorf("P15.1: a full segment: %v", l)
	}
	// A geometry that is greater than the disk.
	if l := Walk(made(t, 20), s, 6); len(l) != 0 {
		t.Errorf("P15.1: %v", l)
	}
}

// P15.4
func TestNothingIsKeptOrShared(t *testing.T) {
	d := made(t, 64)
	p, b := two(30)
	room := append(full(1), 5)
	b[0] = room[:64]
	Write(d, 10, p, b)
	room[0] = 9
	b[1][0] = 9
	p.Inos[0] = 9
	f, _ := Read(d, 10)
	if f.Blocks[0][0] != 1 || f.Blocks[1][0] != 2 || f.Part.Inos[0] != 5 || room[64] != 5 {
		t.Errorf("P15.4: what was handed in is kept: %v", f)
	}
	f.Blocks[0][0] = 8
	_ = append(f.Blocks[0], 1)
	if g, _ := Read(d, 10); g.Blocks[0][0] != 1 || f.Blocks[1][0] != 2 {
		t.Error("P15.4: answers share")
	}
}
