package fs

import (
	"math/rand"
	"testing"

	"marl/api"
	"marl/disk"
	"marl/geom"
	"marl/pack"
	"marl/point"
)

// P18.1: no items take more pieces, or more segments, than is held.
func TestWorst(t *testing.T) {
	t.Parallel()
	r := rand.New(rand.NewSource(5))
	for size := 8; size <= 64; size++ {
		f := &FS{super: geom.Super{Blocks: 4096, SegBlocks: size, Inodes: 9}}
		if f.oneBatch(cacheRoom) {
			t.Fatalf("P18.1: the cache has no room for a batch in segments of %d", size)
		}
		for n := 1; f.oneBatch(n); n += 1 + r.Intn(9) {
			files, inos := hard(r, n)
			left := minLeft + r.Intn(size-minLeft+1)
			pieces, e := pack.Plan(files, inos, left, size)
			if e != api.OK {
				t.Fatalf("P18.1: %d items in segments of %d, %d left: %d", n, size, left, e)
			}
			taken := 0
			for _, p := range pieces {
				if p.New {
					taken++
					left = size
				}
				left -= pack.Blocks(p)
			}
			if left < minLeft {
				taken++
			}
			if taken > f.takes(n) {
				t.Fatalf("P18.1: %d items take %d segments of %d, held %d", n, taken, size, f.takes(n))
			}
		}
	}
}

// hard answers n items, most of them each of a file of its own.
func hard(r *rand.Rand, n int) ([]api.Finfo, []int) {
	var files []api.Finfo
	var inos []int
	long := r.Intn(3) * r.Intn(3)
	for n > 0 {
		if r.Intn(30) == 0 && long > 0 {
			inos = append(inos, 1)
			n--
			continue
		}
		x := api.Finfo{Ino: 1}
		for range min(n, 1+r.Intn(1+long*long*3)) {
			x.Lbns = append(x.Lbns, 1)
			n--
		}
		files = append(files, x)
	}
	return files, inos
}

// P18.1: where changes are refused, blocks can be written anew yet, and inodes removed.
func TestWhatIsSpared(t *testing.T) {
	for _, size := range []int{8, 16, 64} {
		d, _ := disk.New(3 + size*30)
		f, e := Mkfs(d, geom.Super{Blocks: 3 + size*30, SegBlocks: size, Inodes: 20})
		if e != api.OK {
			t.Fatal(e)
		}
		f.Make(api.KFile)
		f.Make(api.KFile)
		for at := 0; e == api.OK && at < maxSize; at += api.Block {
			e = f.Write(3, at, []byte{1})
			f.Flush()
		}
		if e != api.ErrFull {
			t.Fatalf("P18.1: segments of %d: %d", size, e)
		}
		if e := f.Rewrite(3, 0); e != api.OK {
			t.Errorf("P18.1: Rewrite: %d", e)
		}
		if e := f.Remove(4); e != api.OK {
			t.Errorf("P18.1: Remove: %d", e)
		}
		if e := f.Checkpoint(); e != api.OK {
			t.Errorf("P18.1: Checkpoint: %d", e)
		}
	}
}

// P18.1, P18.2: Counts go on in another Epoch; where there is none, nothing has room.
func TestEndOfCounts(t *testing.T) {
	d, _ := disk.New(300)
	f, e := Mkfs(d, geom.Super{Blocks: 300, SegBlocks: 16, Inodes: 20})
	if e != api.OK {
		t.Fatal(e)
	}
	f.Make(api.KFile)
	was := f.epoch
	f.count, f.unsaved = lastCount-20, true
	for k := range 50 {
		if e := f.Write(3, k, []byte{byte(k)}); e != api.OK {
			t.Fatalf("P18.1: Write: %d", e)
		}
		if e := f.Checkpoint(); e != api.OK {
			t.Fatalf("P18.1: Checkpoint: %d", e)
		}
		f.Write(3, 100+k, []byte{byte(k)})
		f.Flush()
		g, e := Mount(d.Crash(nil, -1, 0))
		if e != api.OK {
			t.Fatalf("P18.2: Mount: %d", e)
		}
		if b, e := g.Read(3, 100+k, 9); e != api.OK || len(b) != 1 || b[0] != byte(k) {
			t.Fatalf("P18.2: %v, %d", b, e)
		}
	}
	if f.epoch != was+1 || f.count > 1000 {
		t.Errorf("P18.1: Epoch %d, Count %d", f.epoch, f.count)
	}
}

// P18.1: behind the last Epoch's last Counts nothing has room, but what there is stays.
func TestEndOfEpochs(t *testing.T) {
	d, _ := disk.New(300)
	f, e := Mkfs(d, geom.Super{Blocks: 300, SegBlocks: 16, Inodes: 20})
	if e != api.OK {
		t.Fatal(e)
	}
	f.epoch, f.unsaved = maxNumber-1, true
	f.Checkpoint()
	if f, e = Mount(d); e != api.OK {
		t.Fatalf("P18.1: Mount: %d", e)
	}
	if ino, e := f.Make(api.KFile); ino != 3 || e != api.OK {
		t.Fatalf("P18.1: Make: %d, %d", ino, e)
	}
	f.count = lastCount
	if e := f.Checkpoint(); e != api.OK {
		t.Fatalf("P18.1: Checkpoint: %d", e)
	}
	if e := f.Write(3, 0, []byte{1}); e != api.ErrFull {
		t.Errorf("P18.1: Write: %d", e)
	}
	if p, ok := point.Load(d); !ok || p.Epoch != maxNumber || f.Checkpoint() != api.OK {
		t.Errorf("P18.1: %v", p)
	}
	if g, e := Mount(d.Crash(nil, -1, 0)); g != nil || e != api.ErrFull {
		t.Errorf("P18.1: Mount: %v, %d", g, e)
	}
}
