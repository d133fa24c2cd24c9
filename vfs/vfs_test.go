package vfs_test

import (
	"fmt"
	"math"
	"math/rand"
	"slices"
	"strings"
	"testing"

	"marl/api"
	"marl/cleaner"
	"marl/disk"
	"marl/entry"
	"marl/fs"
	"marl/geom"
	"marl/kernel"
	"marl/tree"
	. "marl/vfs"
)

// P21.1
func TestExampleOfTheChapter(t *testing.T) {
	v := made(t, geom.Super{Blocks: 300, SegBlocks: 16, Inodes: 20})
	v.Mkdir("/d")
	v.Create("/d/f")
	v.Write("/d/f", 0, []byte("hi"))
	if e := v.Sync(); e != api.OK {
		t.Fatal(e)
	}
	w := opened(t, v.FS().Disk().Crash(nil, -1, 0))
	if l := w.Walk(); !slices.Equal(l, []string{"/d/", "/d/f"}) {
		t.Errorf("P21.1: %v", l)
	}
	if b, e := w.Read("/d/f", 0, 9); string(b) != "hi" || e != api.OK {
		t.Errorf("P21.1: %q, %d", b, e)
	}
}

// P21.1
func TestFormat(t *testing.T) {
	d, _ := disk.New(300)
	for _, s := range []geom.Super{{}, {Blocks: 301, SegBlocks: 16, Inodes: 20}, {Blocks: 300, SegBlocks: 16, Inodes: 3}} {
		if v, e := Format(d, s); v != nil || e != api.ErrRange {
			t.Errorf("P21.1: Format(%v): %v, %d", s, v, e)
		}
	}
	if v, e := Mount(d); v != nil || e != api.ErrSum {
		t.Errorf("P21.1: Mount: %v, %d", v, e)
	}
	d.Arm(3)
	if v, e := Format(d, geom.Super{Blocks: 300, SegBlocks: 16, Inodes: 20}); v != nil || e != api.ErrDead {
		t.Errorf("P21.1: Format: %v, %d", v, e)
	}
	v := made(t, big(9))
	if v.FS() == nil || v.FS().Super() != big(9) || len(v.Walk()) != 0 {
		t.Error("P21.1: a new one")
	}
}

// P21.1: the chapter's errors, in their order, one by one against a tree.
func TestLikeATree(t *testing.T) {
	deep := strings.Repeat("/", 256)
	paths := []string{"", "x", "/", "//", deep, "/n", "/n/a", "/g", "/g/", "/g/a", "/d", "/d/", "/d/f", "/d/f/", "/d/e", "/d/e/", "/d/e/y", "/x", "/x/", "/x/y", "/new", "/new/", "/.", "/..", "/123456789012345", "/d/e/123456789012345", "//d//f"}
	lay := func(x calls) {
		x.Mkdir("/d")
		x.Create("/d/f")
		x.Mkdir("/d/e")
		x.Create("/g")
		x.Mkdir("/x")
	}
	for _, n := range []int{9, 7} {
		for kind := range 11 {
			for _, a := range paths {
				for _, b := range paths {
					if kind != 2 && kind != 5 && b != "/" {
						continue
					}
					x, _ := tree.New(n)
					v := made(t, geom.Super{Blocks: 200, SegBlocks: 16, Inodes: n})
					lay(x)
					lay(v)
					c := call{kind: kind, a: a, b: b, at: 3, n: 5, data: []byte("abc")}
					if got, want := c.do(v), c.do(x); got != want {
						t.Fatalf("P21.1: call %d of %q, %q: %s, want %s", kind, a, b, got, want)
					}
					if p, q := picture(v), picture(x); p != q {
						t.Fatalf("P21.1: behind call %d of %q, %q: %s, want %s", kind, a, b, p, q)
					}
				}
			}
		}
	}
}

// P21.1
func TestEdgesOfBytes(t *testing.T) {
	v := made(t, big(9))
	x, _ := tree.New(9)
	for _, c := range []call{
		{kind: 0, a: "/f"}, {kind: 1, a: "/d"},
		{kind: 6, a: "/f", at: -1}, {kind: 6, a: "/f", at: math.MaxInt, data: make([]byte, 4097)}, {kind: 6, a: "/f", at: math.MaxInt, data: []byte{1}}, {kind: 6, a: "/f", at: 38401}, {kind: 6, a: "/f", at: 38400}, {kind: 6, a: "/f", at: 38399, data: []byte{1}},
		{kind: 7, a: "/f", at: -1}, {kind: 7, a: "/f", at: 38401}, {kind: 7, a: "/f", at: 38400}, {kind: 7, a: "/f", at: 5}, {kind: 7, a: "/f", at: 5}, {kind: 7, a: "/f", at: 0}, {kind: 7, a: "/f", at: 70}, {kind: 7, a: "/d", at: -1},
		{kind: 8, a: "/f", at: -1, n: 5}, {kind: 8, a: "/f", at: 1, n: -1}, {kind: 8, a: "/f", n: 4097}, {kind: 8, a: "/f", n: 4096}, {kind: 8, a: "/f", at: math.MaxInt, n: 4096}, {kind: 8, a: "/d", n: -1},
		{kind: 6, a: "/f", at: 100, data: make([]byte, 4096)}, {kind: 8, a: "/f", at: 60, n: 99}, {kind: 9, a: "/d"}, {kind: 9, a: "/f"},
	} {
		if got, want := c.do(v), c.do(x); got != want {
			t.Errorf("P21.1: %v: %s, want %s", c, got, want)
		}
	}
	if picture(v) != picture(x) {
		t.Errorf("P21.1: %s, want %s", picture(v), picture(x))
	}
}

// P21.1: many entries, many links, long paths.
func TestGreatTrees(t *testing.T) {
	v := made(t, geom.Super{Blocks: 4000, SegBlocks: 32, Inodes: 200})
	x, _ := tree.New(200)
	both := func(c call) {
		t.Helper()
		if got, want := c.do(v), c.do(x); got != want {
			t.Fatalf("P21.1: %d of %q, %q: %s, want %s", c.kind, c.a, c.b, got, want)
		}
		if v.FS().Clean() < 40 {
			v.FS().Checkpoint()
			cleaner.Run(v.FS(), 60, 50)
		}
	}
	for i := range 100 {
		both(call{kind: 0, a: fmt.Sprint("/", i)})
	}
	for i := range 101 {
		both(call{kind: 2, a: "/7", b: fmt.Sprint("/link", i)})
	}
	for i := range 50 {
		both(call{kind: 3, a: fmt.Sprint("/", 2*i)})
	}
	base := ""
	for range 18 {
		base += "/12345678901234"
		both(call{kind: 1, a: base})
	}
	base = base[:15*16]
	both(call{kind: 0, a: base + "/123456789.1234"})
	both(call{kind: 0, a: base + "/123456789.123"})
	both(call{kind: 1, a: base + "/1234567890123"})
	both(call{kind: 1, a: "/a"})
	both(call{kind: 1, a: "/a/b"})
	both(call{kind: 5, a: "/a", b: base + "/123456789012"})
	both(call{kind: 5, a: "/a", b: base + "/12345678901"})
	for i := range 105 {
		both(call{kind: 0, a: fmt.Sprint("/more", i)})
	}
	if picture(v) != picture(x) {
		t.Errorf("P21.1: %s, want %s", picture(v), picture(x))
	}
	v.Sync()
	if w := opened(t, v.FS().Disk().Crash(nil, -1, 0)); picture(w) != picture(x) {
		t.Errorf("P21.2: %s, want %s", picture(w), picture(x))
	}
}

// P21.1: freed entries are used again, so a directory doesn't grow for ever.
func TestEntriesAreUsedAgain(t *testing.T) {
	v := made(t, big(20))
	for k := range 300 {
		a, b := fmt.Sprint("/", k), fmt.Sprint("/x", k)
		if _, e := v.Create(a); e != api.OK {
			t.Fatal(e)
		}
		if e := v.Rename(a, b); e != api.OK {
			t.Fatal(e)
		}
		if e := v.Unlink(b); e != api.OK {
			t.Fatal(e)
		}
		if k%10 == 0 {
			v.FS().Checkpoint()
		}
	}
	if n, _ := v.FS().Stat(api.Root); n.Size > 64 {
		t.Errorf("P21.1: the root's entries take %d bytes", n.Size)
	}
	if s, _ := v.Stat("/"); s != (api.Stat{Ino: 2, Kind: api.KDir, Links: 1}) {
		t.Errorf("P21.1: %v", s)
	}
}

// P21.1
func TestDescriptors(t *testing.T) {
	v := made(t, big(9))
	v.Create("/f")
	v.Mkdir("/d")
	for p, want := range map[string]api.Errno{"/d": api.ErrIsDir, "/": api.ErrIsDir, "/n": api.ErrNone, "/f/": api.ErrNotDir, "f": api.ErrRange, "/f/x": api.ErrNotDir} {
		if fd, e := v.Open(p); fd != 0 || e != want {
			t.Errorf("P21.1: Open(%q): %d, %d", p, fd, e)
		}
	}
	for k := range 16 {
		if fd, e := v.Open("/f"); fd != k || e != api.OK {
			t.Errorf("P21.1: Open %d: %d, %d", k, fd, e)
		}
	}
	if fd, e := v.Open("/f"); fd != 0 || e != api.ErrFds {
		t.Errorf("P21.1: one more: %d, %d", fd, e)
	}
	if _, e := v.Open("/d"); e != api.ErrIsDir {
		t.Errorf("P21.1: a directory is told ahead: %d", e)
	}
	if v.Close(9) != api.OK || v.Close(3) != api.OK || v.Close(3) != api.ErrFd {
		t.Error("P21.1: Close")
	}
	if fd, e := v.Open("/f"); fd != 3 || e != api.OK {
		t.Errorf("P21.1: the least one: %d, %d", fd, e)
	}
	for _, fd := range []int{-1, 9, 16, math.MaxInt, math.MinInt} {
		b, e := v.ReadAt(fd, -1, -1)
		if b != nil || e != api.ErrFd || v.WriteAt(fd, -1, nil) != api.ErrFd || v.Fsync(fd) != api.ErrFd || v.Close(fd) != api.ErrFd {
			t.Errorf("P21.1: descriptor %d: %v, %d", fd, b, e)
		}
	}
	if v.WriteAt(3, 2, []byte("abc")) != api.OK || v.WriteAt(3, -1, nil) != api.ErrRange || v.WriteAt(3, 38400, []byte{1}) != api.ErrBig || v.WriteAt(3, 0, make([]byte, 4097)) != api.ErrRange {
		t.Error("P21.1: WriteAt")
	}
	if b, e := v.ReadAt(5, 1, 9); string(b) != "\x00abc" || e != api.OK {
		t.Errorf("P21.1: ReadAt: %q, %d", b, e)
	}
	if b, e := v.ReadAt(5, 1, 4097); b != nil || e != api.ErrRange {
		t.Errorf("P21.1: ReadAt: %q, %d", b, e)
	}
	// It goes with its inode, not with its path.
	v.Rename("/f", "/d/g")
	if b, e := v.ReadAt(5, 2, 9); string(b) != "abc" || e != api.OK {
		t.Errorf("P21.1: ReadAt: %q, %d", b, e)
	}
	v.Unlink("/d/g")
	v.Create("/f")
	b, e := v.ReadAt(5, -1, 0)
	if b != nil || e != api.ErrStale || v.WriteAt(5, -1, nil) != api.ErrStale || v.Fsync(5) != api.ErrStale || v.Close(5) != api.OK {
		t.Errorf("P21.1: a stale one: %v, %d", b, e)
	}
	fd, _ := v.Open("/f")
	v.WriteAt(fd, 0, []byte("new"))
	if e := v.Fsync(fd); fd != 5 || e != api.OK {
		t.Errorf("P21.1: Fsync: %d, %d", fd, e)
	}
	w := opened(t, v.FS().Disk().Crash(nil, -1, 0))
	if b, _ := w.Read("/f", 0, 9); string(b) != "new" {
		t.Errorf("P21.2: behind an Fsync: %q", b)
	}
	if _, e := w.ReadAt(5, 0, 1); e != api.ErrFd {
		t.Errorf("P21.1: a descriptor is open: %d", e)
	}
}

// P21.1
func TestDead(t *testing.T) {
	v := made(t, big(9))
	v.Create("/f")
	fd, _ := v.Open("/f")
	v.FS().Disk().Arm(0)
	if e := v.Sync(); e != api.ErrDead {
		t.Fatal(e)
	}
	was := picture(v)
	i, e := v.Create("")
	j, e2 := v.Mkdir("")
	for k, e := range []api.Errno{e, e2, v.Link("", ""), v.Unlink(""), v.Rmdir(""), v.Rename("", ""), v.Write("", 0, nil), v.Truncate("", 0), v.WriteAt(99, 0, nil), v.Sync(), v.Fsync(99)} {
		if e != api.ErrDead || i|j != 0 {
			t.Errorf("P21.1: call %d of a dead one: %d", k, e)
		}
	}
	if _, e := v.Read("", 0, 0); e != api.ErrRange {
		t.Errorf("P21.1: Read of a dead one: %d", e)
	}
	if b, e := v.ReadAt(fd, 0, 9); len(b) != 0 || e != api.OK {
		t.Errorf("P21.1: ReadAt of a dead one: %d", e)
	}
	if picture(v) != was || v.Close(fd) != api.OK {
		t.Error("P21.1: a dead one changes")
	}
	if fd, e := v.Open("/f"); fd != 0 || e != api.OK {
		t.Errorf("P21.1: Open of a dead one: %d", e)
	}
}

// P21.1: a full disk refuses, and nothing is changed; what frees room goes on with the cleaner's help.
func TestFull(t *testing.T) {
	v := made(t, geom.Super{Blocks: 64, SegBlocks: 8, Inodes: 9})
	x, _ := tree.New(9)
	refused := 0
	r := rand.New(rand.NewSource(1))
	h := &history{n: 9}
	for range 600 {
		c := someCall(r)
		was := picture(v)
		got := c.do(v)
		if strings.HasSuffix(got, full) {
			refused++
			if picture(v) != was {
				t.Fatalf("P21.1: what is refused changes something")
			}
			if want := c.do(h.tree(t)); !strings.HasSuffix(want, " 0") {
				t.Fatalf("P21.1: %v: %s, want %s", c, got, want)
			}
			cleaner.Run(v.FS(), 99, 5)
			continue
		}
		if want := c.do(x); got != want {
			t.Fatalf("P21.1: %v: %s, want %s", c, got, want)
		}
		h.done = append(h.done, c)
	}
	if refused == 0 {
		t.Error("nothing was refused")
	}
	if picture(v) != picture(x) {
		t.Errorf("P21.1: %s, want %s", picture(v), picture(x))
	}
}

// tight answers a call that needs room, of two directories.
func tight(r *rand.Rand) call {
	p := func() string { return "/" + string("ab"[r.Intn(2)]) + "/" + string("cdefgh"[r.Intn(6)]) }
	c := call{kind: []int{0, 1, 2, 3, 5, 5, 5, 6, 6, 7}[r.Intn(10)], a: p(), b: p(), at: r.Intn(4000), data: make([]byte, 1+r.Intn(900))}
	if r.Intn(3) == 0 {
		c.data = c.data[:1]
	}
	return c
}

// P21.1, P21.2: what is refused for want of room is refused whole, on the disk, too.
func TestRefusedWhole(t *testing.T) {
	t.Parallel()
	refused := 0
	for seed := range 40 {
		r := rand.New(rand.NewSource(int64(seed)))
		v := made(t, geom.Super{Blocks: 64 + r.Intn(90), SegBlocks: 8, Inodes: 14})
		v.Mkdir("/a")
		v.Mkdir("/b")
		for range 200 {
			c := tight(r)
			was := picture(v)
			got := c.do(v)
			if !strings.HasSuffix(got, full) {
				continue
			}
			refused++
			if picture(v) != was {
				t.Fatalf("P21.1: what is refused changes something: %d", c.kind)
			}
			if e := v.Sync(); e != api.OK {
				t.Fatalf("P21.1: Sync: %d", e)
			}
			if w := opened(t, v.FS().Disk().Crash(nil, -1, 0)); picture(w) != was {
				t.Fatalf("P21.2: what is refused is on the disk: %d", c.kind)
			}
			if r.Intn(20) == 0 {
				cleaner.Run(v.FS(), 99, 3)
			}
		}
	}
	if refused < 100 {
		t.Errorf("only %d calls were refused", refused)
	}
}

// P21.1: with 600 clean blocks nothing is refused.
func TestRoom(t *testing.T) {
	for seed := range 6 {
		r := rand.New(rand.NewSource(int64(seed)))
		v := made(t, geom.Super{Blocks: 1500 + r.Intn(2500), SegBlocks: 16 + r.Intn(49), Inodes: []int{20, 200}[seed%2]})
		for range 500 {
			c := someCall(r)
			if r.Intn(5) == 0 {
				c = call{kind: 6, a: somePath(r), at: r.Intn(34000), data: make([]byte, 4096)}
			}
			v.Sync()
			enough := v.FS().Clean()*v.FS().Super().SegBlocks >= 600
			if got := c.do(v); enough && strings.HasSuffix(got, full) {
				t.Fatalf("P21.1: %v is refused: %d clean segments of %d", c.kind, v.FS().Clean(), v.FS().Super().SegBlocks)
			}
			if v.FS().Clean()*v.FS().Super().SegBlocks < 500 {
				cleaner.Run(v.FS(), 800/v.FS().Super().SegBlocks, 30)
			}
		}
	}
}

// P21.1: a directory of 38400 bytes has no room for more.
func TestGreatestDirectory(t *testing.T) {
	v := made(t, geom.Super{Blocks: 4096, SegBlocks: 64, Inodes: 200})
	n := 0
	for i := range 24 {
		v.Create(fmt.Sprint("/f", i))
		n++
		for j := range 99 {
			if e := v.Link(fmt.Sprint("/f", i), fmt.Sprint("/", i, ".", j)); e != api.OK {
				t.Fatalf("P21.1: entry %d: %d", n, e)
			}
			n++
		}
		v.FS().Checkpoint()
		cleaner.Run(v.FS(), 20, 50)
	}
	was := len(v.Walk())
	if s, _ := v.FS().Stat(2); was != 2400 || s.Size != 38400 {
		t.Fatalf("P21.1: %d entries, %d bytes", was, s.Size)
	}
	if _, e := v.Create("/more"); e != api.ErrFull {
		t.Errorf("P21.1: %d", e)
	}
	if e := v.Rename("/0.1", "/other"); e != api.OK {
		t.Errorf("P21.1: Rename takes no more room: %d", e)
	}
	v.Unlink("/0.2")
	if _, e := v.Mkdir("/more"); e != api.OK {
		t.Errorf("P21.1: %d", e)
	}
	if _, e := v.Create("/more/x"); e != api.OK {
		t.Errorf("P21.1: %d", e)
	}
	if e := v.Rename("/more/x", "/x"); e != api.ErrFull {
		t.Errorf("P21.1: %d", e)
	}
	if e := v.Rename("/more/x", "/0.3"); e != api.OK || len(v.Walk()) != 2400 {
		t.Errorf("P21.1: %d, %d", e, len(v.Walk()))
	}
}

// P21.1, P21.3: like a tree, with and without a cleaner between.
func TestRandomCalls(t *testing.T) {
	t.Parallel()
	for seed := range 40 {
		r := rand.New(rand.NewSource(int64(seed)))
		s := someGeometry(r)
		v, x, h := made(t, s), newTree(t, s.Inodes), &history{n: s.Inodes}
		k := kernel.New(v.FS())
		for i := range 300 {
			c := someCall(r)
			got := c.do(v)
			if strings.HasSuffix(got, full) {
				if want := c.do(h.tree(t)); !strings.HasSuffix(want, " 0") {
					t.Fatalf("P21.1: %v: %s, want %s", c, got, want)
				}
			} else {
				if want := c.do(x); got != want {
					t.Fatalf("P21.1: %v: %s, want %s", c, got, want)
				}
				h.done = append(h.done, c)
			}
			if seed%2 == 0 {
				meddle(r, v, k)
			}
			if i%30 == 0 && picture(v) != picture(x) {
				t.Fatalf("P21.1: %s, want %s", picture(v), picture(x))
			}
		}
		if picture(v) != picture(x) {
			t.Fatalf("P21.1: %s, want %s", picture(v), picture(x))
		}
	}
}

func newTree(t *testing.T, n int) *tree.Tree {
	t.Helper()
	x, e := tree.New(n)
	if e != api.OK {
		t.Fatal(e)
	}
	return x
}

// meddle calls kernel and cleaner.
func meddle(r *rand.Rand, v *VFS, k *kernel.Kernel) {
	segs := v.FS().Super().Segs()
	switch r.Intn(6) {
	case 0:
		cleaner.Run(v.FS(), r.Intn(segs+1), r.Intn(4))
	case 1:
		cleaner.Clean(v.FS(), r.Intn(segs))
	case 2:
		l := cleaner.Names(v.FS().Disk(), v.FS().Super(), r.Intn(segs))
		k.Markv(l[:min(64, len(l))])
	case 3:
		k.Segclean(r.Intn(segs))
	case 4:
		v.FS().Checkpoint()
	}
}

// P21.2
func TestPower(t *testing.T) {
	t.Parallel()
	for seed := range 150 {
		r := rand.New(rand.NewSource(int64(seed)))
		s := someGeometry(r)
		v, x := made(t, s), newTree(t, s.Inodes)
		may := []string{picture(x)}
		h := &history{n: s.Inodes}
		since := [][]call{nil}
		d := v.FS().Disk()
		for range 5 {
			d.Arm(r.Intn(300))
			k := kernel.New(v.FS())
			for range 400 {
				if v.FS().Dead() {
					break
				}
				c := someCall(r)
				got := c.do(v)
				if strings.HasSuffix(got, "102") {
					break
				}
				if !strings.HasSuffix(got, full) {
					if want := c.do(x); got != want {
						t.Fatalf("P21.1: %v: %s, want %s", c, got, want)
					}
					h.done = append(h.done, c)
					if p := picture(x); p != may[len(may)-1] {
						may = append(may, p)
						since = append(since, slices.Clone(h.done))
					}
				}
				if r.Intn(4) == 0 {
					meddle(r, v, k)
				}
				if r.Intn(8) == 0 && v.Sync() == api.OK {
					may, since = may[len(may)-1:], since[len(since)-1:]
				}
			}
			d = crash(r, d)
			for range r.Intn(3) {
				d.Arm(r.Intn(10))
				if _, e := Mount(d); e != api.OK && e != api.ErrDead {
					t.Fatalf("P21.2: Mount: %d", e)
				}
				d = crash(r, d)
			}
			v = opened(t, d)
			p := picture(v)
			if !contains(may, p) {
				t.Fatalf("P21.2: there is %s, want one of %v", p, may)
			}
			i := slices.Index(may, p)
			h.done = since[i]
			x = h.tree(t)
			may, since = []string{p}, [][]call{since[i]}
		}
	}
}

// P21.1: inodes that make no tree.
func TestNoTrees(t *testing.T) {
	de := func(ino int, name string) entry.DirEntry { return entry.DirEntry{Ino: ino, Name: name} }
	for i, c := range []struct {
		lay func(f *fs.FS)
		ok  bool
	}{
		{func(f *fs.FS) {}, true},
		{func(f *fs.FS) { f.Make(api.KFile) }, false},
		{func(f *fs.FS) { f.Make(api.KDir) }, false},
		{func(f *fs.FS) { f.Make(api.KFile); f.Write(2, 0, dirBlock(t, de(3, "a"))) }, true},
		{func(f *fs.FS) { f.Make(api.KFile); f.Write(2, 128, dirBlock(t, de(3, "a"))) }, true},
		{func(f *fs.FS) { f.Make(api.KFile); f.Write(2, 0, dirBlock(t, de(3, "a"))[:16]) }, false},
		{func(f *fs.FS) { f.Make(api.KFile); f.Write(2, 0, dirBlock(t, de(3, "a"), de(3, "a"))) }, false},
		{func(f *fs.FS) { f.Write(2, 0, make([]byte, 16)) }, false},
		{func(f *fs.FS) { f.Write(2, 0, make([]byte, 128)) }, true},
		{func(f *fs.FS) { f.Make(api.KFile); f.Write(2, 0, append(dirBlock(t, de(3, "a")), 0)) }, false},
		{func(f *fs.FS) { f.Make(api.KFile); f.Write(2, 0, dirBlock(t, de(3, "a"), de(3, "b"))) }, false},
		{func(f *fs.FS) {
			f.Make(api.KFile)
			f.SetLinks(3, 2)
			f.Write(2, 0, dirBlock(t, de(3, "a"), de(3, "b")))
		}, true},
		{func(f *fs.FS) { f.Make(api.KFile); f.SetLinks(3, 2); f.Write(2, 0, dirBlock(t, de(3, "a"))) }, false},
		{func(f *fs.FS) {
			f.Make(api.KFile)
			f.SetLinks(3, 2)
			f.Write(2, 0, dirBlock(t, de(3, "a"), de(3, "a")))
		}, false},
		{func(f *fs.FS) {
			f.Make(api.KFile)
			f.SetLinks(3, 2)
			f.Write(2, 0, append(dirBlock(t, de(3, "a")), dirBlock(t, de(3, "a"))...))
		}, false},
		{func(f *fs.FS) { f.Make(api.KFile); f.SetLinks(3, 0) }, false},
		{func(f *fs.FS) { f.Write(2, 0, dirBlock(t, de(3, "a"))) }, false},
		{func(f *fs.FS) { f.Write(2, 0, dirBlock(t, de(1, "a"))) }, false},
		{func(f *fs.FS) { f.Write(2, 0, dirBlock(t, de(2, "a"))) }, false},
		{func(f *fs.FS) { f.SetLinks(2, 2); f.Write(2, 0, dirBlock(t, de(2, "a"))) }, false},
		{func(f *fs.FS) { f.SetLinks(2, 0) }, false},
		{func(f *fs.FS) { f.Write(2, 0, []byte(strings.Repeat("x", 64))) }, false},
		{func(f *fs.FS) { f.Make(api.KDir); f.Write(2, 0, dirBlock(t, de(3, "a"))) }, true},
		{func(f *fs.FS) { f.Make(api.KDir); f.SetLinks(3, 2); f.Write(2, 0, dirBlock(t, de(3, "a"), de(3, "b"))) }, false},
		{func(f *fs.FS) { f.Make(api.KDir); f.SetLinks(3, 2); f.Write(2, 0, dirBlock(t, de(3, "a"))) }, false},
		{func(f *fs.FS) {
			f.Make(api.KDir)
			f.Make(api.KDir)
			f.Write(3, 0, dirBlock(t, de(4, "a")))
			f.Write(4, 0, dirBlock(t, de(3, "a")))
		}, false},
		{func(f *fs.FS) {
			f.Make(api.KDir)
			f.Make(api.KDir)
			f.Write(2, 0, dirBlock(t, de(3, "a")))
			f.Write(3, 0, dirBlock(t, de(4, "a")))
			f.Write(4, 0, dirBlock(t, de(3, "a")))
		}, false},
		{func(f *fs.FS) {
			f.Make(api.KDir)
			f.Make(api.KDir)
			f.Write(2, 0, dirBlock(t, de(3, "a")))
			f.Write(3, 0, dirBlock(t, de(4, "a")))
		}, true},
	} {
		v := made(t, big(9))
		c.lay(v.FS())
		v.Sync()
		w, e := Mount(v.FS().Disk().Crash(nil, -1, 0))
		if (e == api.OK) != c.ok || !c.ok && (e != api.ErrForm || w != nil) {
			t.Errorf("P21.1: tree %d: %d", i, e)
		}
	}
}

// P21.4
func TestAnyDisk(t *testing.T) {
	t.Parallel()
	r := rand.New(rand.NewSource(3))
	mounted := 0
	for range 600 {
		s := geom.Super{Blocks: 200, SegBlocks: 8 + r.Intn(20), Inodes: 9}
		if s.Check() != api.OK {
			continue
		}
		v := made(t, s)
		for range 40 {
			someCall(r).do(v)
		}
		v.Sync()
		d := v.FS().Disk()
		for range 1 + r.Intn(2) {
			i := r.Intn(100)
			b, _ := d.Read(i)
			if r.Intn(2) == 0 {
				b, _ = d.Read(r.Intn(100))
			}
			b[r.Intn(64)] = byte(r.Intn(5))
			d.Write(i, b)
		}
		w, e := Mount(d)
		if e != api.OK {
			continue
		}
		mounted++
		p := picture(w)
		w = opened(t, d)
		if picture(w) != p {
			t.Fatal("P21.4: mounted twice it is another one")
		}
		for range 20 {
			someCall(r).do(w)
		}
		p = picture(w)
		if e := w.Sync(); e != api.OK {
			t.Fatal(e)
		}
		if picture(opened(t, d.Crash(nil, -1, 0))) != p {
			t.Fatal("P21.4: what was synced isn't there")
		}
	}
	if mounted < 50 {
		t.Errorf("P21.4: only %d disks were mounted", mounted)
	}
}

// P21.5
func TestNothingIsKeptOrShared(t *testing.T) {
	v := made(t, big(9))
	v.Create("/f")
	room := append([]byte("abc"), 7, 7)
	v.Write("/f", 0, room[:3])
	room[0] = 'x'
	fd, _ := v.Open("/f")
	b, _ := v.Read("/f", 0, 9)
	c, _ := v.ReadAt(fd, 0, 9)
	b[1], c[1] = 'x', 'x'
	if b, _ := v.Read("/f", 0, 9); string(b) != "abc" || room[3] != 7 {
		t.Errorf("P21.5: %q", b)
	}
	v.Walk()[0] = "?"
	l, _ := v.List("/")
	l[0] = "?"
	if l, _ := v.List("/"); l[0] != "f" || v.Walk()[0] != "/f" {
		t.Error("P21.5: answers share")
	}
}
