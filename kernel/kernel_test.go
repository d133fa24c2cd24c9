package kernel_test

import (
	"fmt"
	"math"
	"math/rand"
	"slices"
	"testing"

	"marl/api"
	"marl/disk"
	"marl/fs"
	"marl/geom"
	. "marl/kernel"
	"marl/usage"
)

func made(t *testing.T, blocks int) *fs.FS {
	t.Helper()
	d, _ := disk.New(blocks)
	f, e := fs.Mkfs(d, geom.Super{Blocks: blocks, SegBlocks: 16, Inodes: 20})
	if e != api.OK {
		t.Fatal(e)
	}
	return f
}

func id(ino, version, lbn, addr int) api.BlockID {
	return api.BlockID{Ino: ino, Version: version, Lbn: lbn, Addr: addr}
}

// seen tells all inodes and bytes.
func seen(f *fs.FS) string {
	s := ""
	for _, ino := range f.Inodes() {
		n, _ := f.Stat(ino)
		s += fmt.Sprint(n.Ino, n.Version, n.Kind, n.Links, n.Size, " ")
		for at := 0; at < n.Size; at += 4096 {
			b, _ := f.Read(ino, at, 4096)
			s += fmt.Sprintf("%x", b)
		}
	}
	return s
}

// names tells all blocks that stand somewhere.
func names(f *fs.FS) []api.BlockID {
	var l []api.BlockID
	for _, ino := range append(f.Inodes(), api.Ifile) {
		n, _ := f.Stat(ino)
		for lbn := -700; lbn <= 600; lbn++ {
			if a := f.Where(ino, lbn); a != 0 {
				l = append(l, api.BlockID{Ino: ino, Version: n.Version, Lbn: lbn, Addr: a})
			}
		}
	}
	return l
}

func written(t *testing.T, f *fs.FS) {
	t.Helper()
	f.Make(api.KFile)
	f.Write(3, 0, make([]byte, 64*25))
	f.Make(api.KFile)
	f.Write(4, 100, []byte("abc"))
	f.Remove(4)
	f.Make(api.KFile)
	f.Write(4, 100, []byte("def"))
	if e := f.Checkpoint(); e != api.OK {
		t.Fatal(e)
	}
}

// P19.1
func TestBmapv(t *testing.T) {
	f := made(t, 400)
	k := New(f)
	written(t, f)
	all := names(f)
	for len(all) > 0 {
		n := min(64, len(all))
		l, e := k.Bmapv(all[:n])
		if e != api.OK || len(l) != n {
			t.Fatalf("P19.1: %v, %d", l, e)
		}
		for i, a := range l {
			if a != all[i].Addr || a == 0 {
				t.Errorf("P19.1: %v: %d", all[i], a)
			}
		}
		all = all[n:]
	}
	at := f.Where(4, 1)
	l, e := k.Bmapv([]api.BlockID{id(4, 1, 1, 7), id(4, 0, 1, at), id(4, 2, 1, at), id(4, 1, 0, at), id(4, 1, 600, 0), id(5, 0, 600, 0), id(1, 0, 600, 0), id(1, 1, 600, 0), id(1, 0, 0, 0), id(-1, 0, 600, 0), id(math.MaxInt, math.MinInt, math.MinInt, math.MinInt), id(3, 0, math.MinInt, 0), id(3, 0, -6, 0), id(0, 0, 600, 0)})
	want := []int{at, 0, 0, 0, f.Where(4, 600), 0, f.Where(1, 600), 0, f.Where(1, 0), 0, 0, 0, f.Where(3, -6), 0}
	if e != api.OK || !slices.Equal(l, want) {
		t.Errorf("P19.1: %v, %d, want %v", l, e, want)
	}
	if l, e := k.Bmapv(nil); len(l) != 0 || e != api.OK {
		t.Errorf("P19.1: %v, %d", l, e)
	}
	if l, e := k.Bmapv(make([]api.BlockID, 65)); l != nil || e != api.ErrRange {
		t.Errorf("P19.1: %v, %d", l, e)
	}
	if l, e := k.Bmapv(make([]api.BlockID, 64)); len(l) != 64 || e != api.OK {
		t.Errorf("P19.1: %v, %d", l, e)
	}
}

// P19.1
func TestMarkv(t *testing.T) {
	f := made(t, 400)
	k := New(f)
	written(t, f)
	was := seen(f)
	at := f.Where(4, 1)
	l := []api.BlockID{id(4, 1, 1, at), id(4, 0, 1, at), id(4, 1, 1, at+1), id(4, 1, 0, 0), id(4, 1, 600, f.Where(4, 600)), id(1, 0, 600, f.Where(1, 600)), id(1, 1, 600, f.Where(1, 600)), id(99, 0, 0, 0), id(4, 1, 1, at)}
	given := slices.Clone(l)
	if n, e := k.Markv(l); n != 4 || e != api.OK {
		t.Errorf("P19.1: %d, %d", n, e)
	}
	if !slices.Equal(l, given) {
		t.Error("P19.4: what is handed in is changed")
	}
	if f.Where(4, 1) != at || seen(f) != was {
		t.Error("P19.2: something is changed at once")
	}
	f.Checkpoint()
	if f.Where(4, 1) == at || f.Where(4, 600) == given[4].Addr || f.Where(1, 600) == given[5].Addr || seen(f) != was {
		t.Error("P19.3: what is marked stands where it stood")
	}
	if n, e := k.Markv(given); n != 0 || e != api.OK {
		t.Errorf("P19.1: what is live no more: %d, %d", n, e)
	}
	if n, e := k.Markv(make([]api.BlockID, 65)); n != 0 || e != api.ErrRange {
		t.Errorf("P19.1: too many: %d, %d", n, e)
	}
	if n, e := k.Markv(nil); n != 0 || e != api.OK {
		t.Errorf("P19.1: none: %d, %d", n, e)
	}
}

// P19.1: where there is no room, how many were ahead is told beside the error.
func TestMarkvWithoutRoom(t *testing.T) {
	f := made(t, 300)
	k := New(f)
	f.Make(api.KFile)
	for at := 0; f.Write(3, at, make([]byte, 64*30)) == api.OK; at += 64 * 30 {
		if e := f.Checkpoint(); e != api.OK {
			t.Fatal(e)
		}
	}
	was := seen(f)
	l := names(f)
	n, e := k.Markv(l[:min(64, len(l))])
	if e != api.ErrFull || n == 0 || n >= len(l) {
		t.Errorf("P19.1: %d of %d, %d", n, len(l), e)
	}
	if e := f.Checkpoint(); e != api.OK || seen(f) != was {
		t.Errorf("P19.2: %d", e)
	}
	for _, b := range l[:n] {
		if f.Where(b.Ino, b.Lbn) == b.Addr {
			t.Errorf("P19.3: %v stands where it stood", b)
		}
	}
}

// P19.1
func TestSegclean(t *testing.T) {
	f := made(t, 400)
	k := New(f)
	f.Make(api.KFile)
	f.Write(3, 0, make([]byte, 64*40))
	f.Flush()
	f.Write(3, 0, make([]byte, 64*40))
	f.Flush()
	was := seen(f)
	seg := -1
	for s := range f.Super().Segs() {
		i, _ := f.Segment(s)
		want := api.OK
		switch {
		case i.State == usage.Clean:
			want = api.ErrStale
		case i.State == usage.Active || i.Live > 0:
			want = api.ErrBusy
		default:
			seg = s
			continue
		}
		if e := k.Segclean(s); e != want {
			t.Errorf("P19.1: Segclean of %v: %d", i, e)
		}
	}
	for _, s := range []int{-1, 24, math.MaxInt, math.MinInt} {
		if e := k.Segclean(s); e != api.ErrRange {
			t.Errorf("P19.1: Segclean(%d): %d", s, e)
		}
	}
	if seg < 0 {
		t.Fatal("no segment can be cleaned")
	}
	if e := k.Segclean(seg); e != api.OK {
		t.Errorf("P19.1: Segclean: %d", e)
	}
	if i, _ := f.Segment(seg); i.State != usage.Clean || seen(f) != was {
		t.Errorf("P19.1: behind Segclean: %v", i)
	}
	if e := k.Segclean(seg); e != api.ErrStale {
		t.Errorf("P19.1: Segclean again: %d", e)
	}
	n := f.Clean()
	for want, ok := range map[int]bool{n: true, n + 1: false, n - 1: true, math.MinInt: true, math.MaxInt: false} {
		if m, enough := k.Segwait(want); m != n || enough != ok {
			t.Errorf("P19.1: Segwait(%d): %d, %v", want, m, enough)
		}
	}
}

// P19.1
func TestDead(t *testing.T) {
	f := made(t, 400)
	k := New(f)
	f.Make(api.KFile)
	f.Write(3, 0, make([]byte, 64*40))
	f.Flush()
	f.Write(3, 0, make([]byte, 64*40))
	f.Flush()
	at := f.Where(3, 0)
	f.Disk().Arm(0)
	var e api.Errno
	for s := range f.Super().Segs() {
		if i, _ := f.Segment(s); i.State == usage.Used && i.Live == 0 {
			e = k.Segclean(s)
		}
	}
	if e != api.ErrDead || !f.Dead() {
		t.Errorf("P19.1: Segclean: %d", e)
	}
	n, e := k.Markv(make([]api.BlockID, 65))
	if n != 0 || e != api.ErrDead || k.Segclean(-1) != api.ErrDead {
		t.Errorf("P19.1: Markv: %d, %d", n, e)
	}
	if l, e := k.Bmapv([]api.BlockID{id(3, 0, 0, 0)}); !slices.Equal(l, []int{at}) || e != api.OK {
		t.Errorf("P19.1: Bmapv: %v, %d", l, e)
	}
}

// P19.2, P19.3
func TestWhateverIsHandedIn(t *testing.T) {
	for seed := range 10 {
		r := rand.New(rand.NewSource(int64(seed)))
		f := made(t, 900)
		k := New(f)
		for range 40 {
			ino, _ := f.Make(1 + r.Intn(2))
			if ino == 0 || r.Intn(3) == 0 {
				ino = 3 + r.Intn(17)
			}
			f.Write(ino, r.Intn(64*r.Intn(600)+1), make([]byte, r.Intn(900)))
			f.Truncate(3+r.Intn(17), r.Intn(2000))
			if r.Intn(5) == 0 {
				f.Remove(3 + r.Intn(17))
			}
			was := seen(f)
			all := names(f)
			l := make([]api.BlockID, r.Intn(66))
			for i := range l {
				l[i] = api.BlockID{Ino: r.Intn(22) - 1, Version: r.Intn(3), Lbn: r.Intn(700) - 100, Addr: r.Intn(900)}
				if len(all) > 0 && r.Intn(3) > 0 {
					l[i] = all[r.Intn(len(all))]
				}
			}
			k.Markv(l)
			k.Bmapv(l)
			k.Segclean(r.Intn(60) - 2)
			if seen(f) != was {
				t.Fatal("P19.2: something is changed")
			}
			if r.Intn(3) == 0 {
				if e := f.Flush(); e != api.OK || seen(f) != was {
					t.Fatalf("P19.2: something is changed behind a flush: %d", e)
				}
				g, e := fs.Mount(f.Disk().Crash(nil, -1, 0))
				if e != api.OK || seen(g) != was {
					t.Fatalf("P19.2: something is changed behind a crash: %d", e)
				}
			}
			if r.Intn(4) == 0 {
				f.Checkpoint()
				clean(t, f, k, r.Intn(f.Super().Segs()))
			}
		}
	}
}

// clean marks all that is live in a segment, and has it clean then.
func clean(t *testing.T, f *fs.FS, k *Kernel, seg int) {
	t.Helper()
	if i, _ := f.Segment(seg); i.State != usage.Used {
		return
	}
	var l []api.BlockID
	for _, b := range names(f) {
		if s, _, _ := f.Super().Of(b.Addr); s == seg {
			l = append(l, b)
		}
	}
	n, e := k.Markv(l)
	if e == api.ErrFull {
		return
	}
	if n != len(l) || e != api.OK {
		t.Fatalf("P19.1: %d of %d were marked, %d", n, len(l), e)
	}
	if e := f.Checkpoint(); e != api.OK {
		t.Fatal(e)
	}
	for _, b := range l {
		if f.Where(b.Ino, b.Lbn) == b.Addr {
			t.Fatalf("P19.3: %v stands where it stood", b)
		}
	}
	if i, _ := f.Segment(seg); i.State != usage.Clean {
		t.Fatalf("P19.3: the segment isn't clean: %v", i)
	}
}
