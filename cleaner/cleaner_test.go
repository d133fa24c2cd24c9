package cleaner_test

import (
	"fmt"
	"math"
	"math/rand"
	"slices"
	"testing"

	"marl/api"
	. "marl/cleaner"
	"marl/disk"
	"marl/fs"
	"marl/geom"
	"marl/inode"
	"marl/pick"
	"marl/seg"
	"marl/usage"
)

func made(t *testing.T, s geom.Super) *fs.FS {
	t.Helper()
	d, _ := disk.New(s.Blocks)
	f, e := fs.Mkfs(d, s)
	if e != api.OK {
		t.Fatal(e)
	}
	return f
}

func small() geom.Super { return geom.Super{Blocks: 500, SegBlocks: 16, Inodes: 20} }

func id(ino, version, lbn, addr int) api.BlockID {
	return api.BlockID{Ino: ino, Version: version, Lbn: lbn, Addr: addr}
}

// seen tells all inodes and bytes.
func seen(f *fs.FS) string {
	s := ""
	for _, ino := range f.Inodes() {
		n, _ := f.Stat(ino)
		s += fmt.Sprint(n.Ino, n.Version, n.Kind, n.Links, n.Size, " ")
		for at := 0; at < n.Size; at += 4096 {
			b, _ := f.Read(ino, at, 4096)
			s += fmt.Sprintf("%x", b)
		}
	}
	return s
}

func total(f *fs.FS) int {
	n := 0
	for s := range f.Super().Segs() {
		i, _ := f.Segment(s)
		n += i.Live
	}
	return n
}

// P20.1
func TestNames(t *testing.T) {
	s := geom.Super{Blocks: 64, SegBlocks: 8, Inodes: 9}
	d, _ := disk.New(64)
	own := func(n api.Inode) []byte {
		b, e := inode.Encode(n)
		if e != api.OK {
			t.Fatal(e)
		}
		return b
	}
	zero := make([]byte, 64)
	write := func(addr int, p api.Part, blocks ...[]byte) {
		p.Parts, p.Next = 1, 60
		if e := seg.Write(d, addr, p, blocks); e != api.OK {
			t.Fatal(e)
		}
	}
	write(11, api.Part{Files: []api.Finfo{{Ino: 3, Version: 5, Lbns: []int{7, -6}}}, Inos: []int{3}}, zero, zero, own(api.Inode{Ino: 3, Version: 9}))
	write(16, api.Part{Inos: []int{4}}, own(api.Inode{Ino: 4, Version: 2, Kind: 1}))
	want := []api.BlockID{id(3, 5, 7, 13), id(3, 5, -6, 14), id(3, 9, 600, 15), id(4, 2, 600, 18)}
	if l := Names(d, s, 1); !slices.Equal(l, want) {
		t.Errorf("P20.1: %v, want %v", l, want)
	}
	// An inode's block that is none's, and one of another inode.
	write(19, api.Part{Inos: []int{4, 5, 6, 7}}, zero, own(api.Inode{Ino: 4}), own(api.Inode{Ino: 6, Version: 1}), own(api.Inode{Ino: 200}))
	if l := Names(d, s, 2); !slices.Equal(l, []api.BlockID{id(6, 1, 600, 23)}) {
		t.Errorf("P20.1: %v", l)
	}
	for _, k := range []int{-1, 0, 3, 7, math.MaxInt, math.MinInt} {
		if l := Names(d, s, k); len(l) != 0 {
			t.Errorf("P20.1: segment %d: %v", k, l)
		}
	}
	if l := Names(d, geom.Super{}, 1); len(l) != 0 {
		t.Errorf("P20.1: no geometry: %v", l)
	}
}

// P20.1
func TestCands(t *testing.T) {
	f := made(t, small())
	f.Make(api.KFile)
	for range 6 {
		f.Write(3, 0, make([]byte, 64*9))
		f.Flush()
	}
	var want []pick.Cand
	for s := range f.Super().Segs() {
		if i, _ := f.Segment(s); i.State == usage.Used {
			want = append(want, pick.Cand{Seg: s, Live: i.Live, Cap: 16, Age: i.Age + 1})
		}
	}
	l := Cands(f)
	if len(want) == 0 || !slices.Equal(l, want) || pick.Check(l) != api.OK {
		t.Errorf("P20.1: %v, want %v", l, want)
	}
	l[0].Seg = 99
	if Cands(f)[0].Seg == 99 {
		t.Error("R6: answers share")
	}
}

// P20.1
func TestClean(t *testing.T) {
	f := made(t, small())
	f.Make(api.KFile)
	f.Write(3, 0, make([]byte, 64*25))
	f.Flush()
	f.Write(3, 0, make([]byte, 64*4))
	f.Flush()
	was := seen(f)
	for _, s := range []int{-1, 31, math.MaxInt, math.MinInt} {
		if n, e := Clean(f, s); n != 0 || e != api.ErrRange {
			t.Errorf("P20.1: Clean(%d): %d, %d", s, n, e)
		}
	}
	var used []int
	steps := f.Disk().Steps()
	for s := range f.Super().Segs() {
		switch i, _ := f.Segment(s); i.State {
		case usage.Used:
			used = append(used, s)
		case usage.Clean:
			if n, e := Clean(f, s); n != 0 || e != api.ErrStale {
				t.Errorf("P20.1: a clean one: %d, %d", n, e)
			}
		case usage.Active:
			if n, e := Clean(f, s); n != 0 || e != api.ErrBusy {
				t.Errorf("P20.1: the active one: %d, %d", n, e)
			}
		}
	}
	// What is refused marks nothing.
	f.Flush()
	if f.Disk().Steps() != steps {
		t.Error("P20.1: what is refused changes something")
	}
	for _, s := range used {
		i, _ := f.Segment(s)
		if n, e := Clean(f, s); n != i.Live || e != api.OK {
			t.Errorf("P20.1: %v: %d, %d", i, n, e)
		}
		if i, _ := f.Segment(s); i.State != usage.Clean {
			t.Errorf("P20.3: %v", i)
		}
		if seen(f) != was {
			t.Fatal("P20.2: something is changed")
		}
	}
	if len(used) == 0 {
		t.Error("no segment was Used")
	}
}

// P20.1: what stands in a segment whose summary is gone can't be told.
func TestWhatStays(t *testing.T) {
	f := made(t, small())
	f.Make(api.KFile)
	f.Write(3, 0, make([]byte, 64*40))
	f.Flush()
	s, _, _ := f.Super().Of(f.Where(3, 20))
	first, _ := f.Super().First(s)
	f.Disk().Write(first, make([]byte, 64))
	was := seen(f)
	if n, e := Clean(f, s); n != 0 || e != api.ErrBusy || seen(f) != was {
		t.Errorf("P20.1: %d, %d", n, e)
	}
	// Run goes on with it, round by round.
	if n, e := Run(f, 99, 5); n != 5 || e != api.OK || seen(f) != was {
		t.Errorf("P20.1: %d rounds, %d", n, e)
	}
}

// P20.1
func TestRun(t *testing.T) {
	f := made(t, small())
	if n, e := Run(f, 1, -1); n != 0 || e != api.ErrRange {
		t.Errorf("P20.1: Run: %d, %d", n, e)
	}
	if n, e := Run(f, math.MaxInt, 9); n != 0 || e != api.OK {
		t.Errorf("P20.1: Run without candidates: %d, %d", n, e)
	}
	f.Make(api.KFile)
	for range 10 {
		f.Write(3, 0, make([]byte, 64*9))
		f.Flush()
	}
	was := seen(f)
	clean := f.Clean()
	for _, want := range []int{clean, 0, -1, math.MinInt} {
		if n, e := Run(f, want, 99); n != 0 || e != api.OK {
			t.Errorf("P20.1: Run(%d): %d, %d", want, n, e)
		}
	}
	if n, e := Run(f, 99, 0); n != 0 || e != api.OK {
		t.Errorf("P20.1: no rounds: %d, %d", n, e)
	}
	// The elder blocks' segments come by one checkpoint.
	if n, e := Run(f, 29, 99); n == 0 || n > 9 || e != api.OK || f.Clean() < 29 || seen(f) != was {
		t.Errorf("P20.1: %d rounds, %d; %d are clean", n, e, f.Clean())
	}
}

// P20.1: the best candidate is cleaned in each round.
func TestRounds(t *testing.T) {
	f := made(t, small())
	g := made(t, small())
	for _, x := range []*fs.FS{f, g} {
		x.Make(api.KFile)
		x.Make(api.KFile)
		for k := range 8 {
			x.Write(3, 64*k, make([]byte, 64*9))
			x.Write(4, 64*9*k, make([]byte, 64*9))
			x.Flush()
		}
		x.Checkpoint()
	}
	for k := range 6 {
		n, e := Run(f, 99, 1)
		var l []pick.Cand
		for _, c := range Cands(g) {
			if c.Live < c.Cap {
				l = append(l, c)
			}
		}
		best, _ := pick.Best(l, 1)
		if len(best) == 0 {
			if n != 0 || e != api.OK {
				t.Errorf("P20.1: round %d: %d, %d", k, n, e)
			}
			continue
		}
		if _, e2 := Clean(g, best[0].Seg); n != 1 || e != e2 {
			t.Errorf("P20.1: round %d: %d, %d, want %d", k, n, e, e2)
		}
		for s := range f.Super().Segs() {
			a, _ := f.Segment(s)
			b, _ := g.Segment(s)
			if a != b {
				t.Fatalf("P20.1: round %d: segment %d: %v, want %v", k, s, a, b)
			}
		}
	}
}

// P20.1
func TestDead(t *testing.T) {
	f := made(t, small())
	f.Make(api.KFile)
	for range 10 {
		f.Write(3, 0, make([]byte, 64*9))
		f.Flush()
	}
	f.Disk().Arm(1)
	if n, e := Run(f, 99, 9); n != 1 || e != api.ErrDead {
		t.Errorf("P20.1: Run: %d, %d", n, e)
	}
	n, e := Run(f, 99, -1)
	m, e2 := Clean(f, -1)
	if n != 0 || e != api.ErrDead || m != 0 || e2 != api.ErrDead {
		t.Errorf("P20.1: a dead one: %d, %d, %d, %d", n, e, m, e2)
	}
}

// P20.1: without room the marks that were made are told beside the error.
func TestWithoutRoom(t *testing.T) {
	f := made(t, geom.Super{Blocks: 300, SegBlocks: 16, Inodes: 20})
	f.Make(api.KFile)
	for at := 0; f.Write(3, at, make([]byte, 64*30)) == api.OK; at += 64 * 30 {
		f.Checkpoint()
	}
	was := seen(f)
	for f.Write(2, 0, make([]byte, 64*5)) == api.OK {
		f.Flush()
	}
	was = seen(f)
	full := 0
	for s := range f.Super().Segs() {
		if i, _ := f.Segment(s); i.State != usage.Used {
			continue
		}
		n, e := Clean(f, s)
		if e == api.ErrFull {
			full++
		}
		if e != api.OK && e != api.ErrFull || n < 0 || seen(f) != was {
			t.Fatalf("P20.1: %d, %d", n, e)
		}
	}
	if full == 0 {
		t.Error("nothing was refused")
	}
}

// P20.2, P20.3
func TestNothingChanges(t *testing.T) {
	for seed := range 12 {
		r := rand.New(rand.NewSource(int64(seed)))
		s := geom.Super{Blocks: 700 + r.Intn(500), SegBlocks: 8 + r.Intn(40), Inodes: 20}
		f := made(t, s)
		for range 40 {
			f.Make(1 + r.Intn(2))
			for range r.Intn(5) {
				f.Write(2+r.Intn(19), r.Intn(64*40), make([]byte, r.Intn(900)))
				f.Truncate(3+r.Intn(18), r.Intn(2000))
				if r.Intn(5) == 0 {
					f.Remove(3 + r.Intn(18))
				}
			}
			if r.Intn(2) == 0 {
				if e := f.Flush(); e != api.OK {
					t.Fatal(e)
				}
			}
			was := seen(f)
			k := r.Intn(s.Segs())
			i, _ := f.Segment(k)
			if i.State == usage.Used && f.Clean() > s.Segs()/2 {
				f.Checkpoint()
				ahead := total(f)
				_, e := Clean(f, k)
				if x, _ := f.Segment(k); e != api.OK && e != api.ErrStale || x.State != usage.Clean {
					t.Fatalf("P20.3: %v, cleaned: %d, %v", i, e, x)
				}
				if n := total(f); n < ahead || n > ahead+3+1 {
					t.Fatalf("P20.3: %d live, %d ahead of it", n, ahead)
				}
			}
			if n, e := Run(f, s.Segs()-r.Intn(9), r.Intn(6)); e != api.OK && e != api.ErrFull || n < 0 || n > 5 {
				t.Fatalf("P20.1: Run: %d, %d", n, e)
			}
			if seen(f) != was {
				t.Fatal("P20.2: something is changed")
			}
			if r.Intn(5) == 0 {
				f.Flush()
				g, e := fs.Mount(f.Disk().Crash(nil, -1, 0))
				if e != api.OK || seen(g) != was {
					t.Fatalf("P20.2: something is changed behind a crash: %d", e)
				}
			}
		}
	}
}

// P20.3: one file, over and over.
func TestRoomComes(t *testing.T) {
	for seed := range 3 {
		r := rand.New(rand.NewSource(int64(seed)))
		f := made(t, geom.Super{Blocks: 1800, SegBlocks: 32, Inodes: 40})
		if _, e := f.Make(api.KFile); e != api.OK {
			t.Fatal(e)
		}
		for k := range 300 {
			for range 1 + r.Intn(3) {
				at := 64 * r.Intn(30)
				if e := f.Write(3, at, make([]byte, 1+r.Intn(64*30-at))); e != api.OK {
					t.Fatalf("P20.3: Write %d: %d", k, e)
				}
			}
			if e := f.Flush(); e != api.OK {
				t.Fatalf("P20.3: Flush %d: %d", k, e)
			}
			if n, e := Run(f, 20, 40); e != api.OK || f.Clean() < 20 {
				t.Fatalf("P20.3: Run %d: %d, %d; %d are clean", k, n, e, f.Clean())
			}
		}
	}
}
