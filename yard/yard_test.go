package yard_test

import (
	"bytes"
	"fmt"
	"math"
	"math/rand"
	"slices"
	"strings"
	"testing"

	"marl/api"
	"marl/cleaner"
	"marl/geom"
	"marl/tree"
	"marl/usage"
	"marl/vfs"
	. "marl/yard"
)

func made(t *testing.T, s geom.Super) *Yard {
	t.Helper()
	y, e := New(s)
	if e != api.OK {
		t.Fatalf("P22.1: New(%v): %d", s, e)
	}
	return y
}

func usual() geom.Super { return geom.Super{Blocks: 300, SegBlocks: 16, Inodes: 20} }

// step does an act that is to answer so.
func step(t *testing.T, y *Yard, a Act, want Answer, e api.Errno) {
	t.Helper()
	got, ge := y.Do(a)
	if ge != e || got.N != want.N || !bytes.Equal(got.Data, want.Data) || !slices.Equal(got.Addrs, want.Addrs) {
		t.Errorf("P22.1: %+v: %v, %d, want %v, %d", a, got, ge, want, e)
	}
}

// P22.1
func TestExampleOfTheChapter(t *testing.T) {
	y := made(t, usual())
	step(t, y, Act{Kind: Create, Path: "/a"}, Answer{N: 3}, api.OK)
	step(t, y, Act{Kind: Sync}, Answer{}, api.OK)
	step(t, y, Act{Kind: Create, Path: "/b"}, Answer{N: 4}, api.OK)
	step(t, y, Act{Kind: Crash}, Answer{}, api.OK)
	if l := y.VFS().Walk(); !slices.Equal(l, []string{"/a"}) {
		t.Errorf("P22.3: %v", l)
	}
}

// P22.1
func TestNew(t *testing.T) {
	for _, s := range []geom.Super{{}, {Blocks: 63, SegBlocks: 8, Inodes: 9}, {Blocks: 4097, SegBlocks: 64, Inodes: 9}, {Blocks: 300, SegBlocks: 16, Inodes: 201}, {Blocks: math.MinInt, SegBlocks: math.MaxInt, Inodes: 9}} {
		if y, e := New(s); y != nil || e != api.ErrRange {
			t.Errorf("P22.1: New(%v): %v, %d", s, y, e)
		}
	}
	y := made(t, usual())
	if y.Disk().Size() != 300 || y.VFS().FS().Super() != usual() || y.VFS().FS().Disk() != y.Disk() {
		t.Error("P22.1: what a new one has")
	}
}

// P22.1
func TestEachKind(t *testing.T) {
	y := made(t, usual())
	step(t, y, Act{Kind: Mkdir, Path: "/d", Old: "/x", N: 7}, Answer{N: 3}, api.OK)
	step(t, y, Act{Kind: Create, Path: "/d/f"}, Answer{N: 4}, api.OK)
	step(t, y, Act{Kind: Create, Path: "/d/f"}, Answer{}, api.ErrExist)
	step(t, y, Act{Kind: Link, Old: "/d/f", Path: "/g"}, Answer{}, api.OK)
	step(t, y, Act{Kind: Link, Old: "/n", Path: "/g"}, Answer{}, api.ErrNone)
	step(t, y, Act{Kind: Unlink, Path: "/d/f"}, Answer{}, api.OK)
	step(t, y, Act{Kind: Unlink, Path: "/d"}, Answer{}, api.ErrIsDir)
	step(t, y, Act{Kind: Rename, Old: "/g", Path: "/d/h"}, Answer{}, api.OK)
	step(t, y, Act{Kind: Rmdir, Path: "/d"}, Answer{}, api.ErrEmpty)
	step(t, y, Act{Kind: Write, Path: "/d/h", At: 2, Data: []byte("abcdef")}, Answer{}, api.OK)
	step(t, y, Act{Kind: Write, Path: "/d/h", At: -1, N: 4}, Answer{}, api.ErrRange)
	step(t, y, Act{Kind: Truncate, Path: "/d/h", At: 6, N: 1, Size: 3}, Answer{}, api.OK)
	step(t, y, Act{Kind: Truncate, Path: "/d/h", At: 38401}, Answer{}, api.ErrBig)
	step(t, y, Act{Kind: Read, Path: "/d/h", At: 1, N: 3, Size: 1}, Answer{Data: []byte("\x00ab")}, api.OK)
	step(t, y, Act{Kind: Read, Path: "/d/h", At: 1, N: 4097}, Answer{}, api.ErrRange)
	step(t, y, Act{Kind: Open, Path: "/d/h"}, Answer{N: 0}, api.OK)
	step(t, y, Act{Kind: Open, Path: "/d/h"}, Answer{N: 1}, api.OK)
	step(t, y, Act{Kind: Open, Path: "/d"}, Answer{}, api.ErrIsDir)
	step(t, y, Act{Kind: ReadAt, N: 1, At: 2, Size: 9}, Answer{Data: []byte("abcd")}, api.OK)
	step(t, y, Act{Kind: ReadAt, N: 2, At: 2, Size: 9}, Answer{}, api.ErrFd)
	step(t, y, Act{Kind: WriteAt, N: 1, At: 1, Data: []byte("x")}, Answer{}, api.OK)
	step(t, y, Act{Kind: WriteAt, N: 1, At: 38400, Data: []byte("x")}, Answer{}, api.ErrBig)
	step(t, y, Act{Kind: Fsync, N: 1}, Answer{}, api.OK)
	step(t, y, Act{Kind: Fsync, N: 9}, Answer{}, api.ErrFd)
	step(t, y, Act{Kind: Close, N: 1}, Answer{}, api.OK)
	step(t, y, Act{Kind: Close, N: 1}, Answer{}, api.ErrFd)
	step(t, y, Act{Kind: Sync}, Answer{}, api.OK)
	step(t, y, Act{Kind: Read, Path: "/d/h", N: 9}, Answer{Data: []byte("\x00xabcd")}, api.OK)
	step(t, y, Act{Kind: Mkdir, Path: "/e"}, Answer{N: 5}, api.OK)
	step(t, y, Act{Kind: Rmdir, Path: "/e"}, Answer{}, api.OK)
	for _, kind := range []int{0, -1, 25, math.MaxInt, math.MinInt} {
		step(t, y, Act{Kind: kind, Path: "/z", N: 4}, Answer{}, api.ErrRange)
	}
	if l := y.VFS().Walk(); !slices.Equal(l, []string{"/d/", "/d/h"}) {
		t.Errorf("P22.1: %v", l)
	}
}

// P22.1: of the kernel, the cleaner, and flushes.
func TestBelow(t *testing.T) {
	y := made(t, usual())
	f := y.VFS().FS()
	y.Do(Act{Kind: Create, Path: "/f"})
	for range 7 {
		y.Do(Act{Kind: Write, Path: "/f", Data: make([]byte, 64*12)})
		steps := y.Disk().Steps()
		step(t, y, Act{Kind: Tick}, Answer{}, api.OK)
		if y.Disk().Steps() == steps {
			t.Error("P22.1: a Tick flushes")
		}
	}
	at := f.Where(3, 0)
	l := []api.BlockID{{Ino: 3, Lbn: 0, Addr: at}, {Ino: 3, Lbn: 1, Addr: 7}, {Ino: 9}}
	step(t, y, Act{Kind: Bmapv, L: l}, Answer{Addrs: []int{at, f.Where(3, 1), 0}}, api.OK)
	step(t, y, Act{Kind: Bmapv, L: make([]api.BlockID, 65)}, Answer{}, api.ErrRange)
	step(t, y, Act{Kind: Markv, L: l}, Answer{N: 1}, api.OK)
	step(t, y, Act{Kind: Markv, L: make([]api.BlockID, 65)}, Answer{}, api.ErrRange)
	dead, used := -1, -1
	for s := range f.Super().Segs() {
		i, _ := f.Segment(s)
		if i.State == usage.Used && i.Live == 0 {
			dead = s
		} else if i.State == usage.Used {
			used = s
		}
	}
	step(t, y, Act{Kind: Segclean, N: used}, Answer{}, api.ErrBusy)
	step(t, y, Act{Kind: Segclean, N: -1}, Answer{}, api.ErrRange)
	step(t, y, Act{Kind: Segclean, N: dead}, Answer{}, api.OK)
	step(t, y, Act{Kind: Segclean, N: dead}, Answer{}, api.ErrStale)
	if f.Where(3, 0) == at {
		t.Error("P22.1: what was marked stands where it stood")
	}
	steps := y.Disk().Steps()
	y.Do(Act{Kind: Write, Path: "/f", Data: make([]byte, 64*12)})
	step(t, y, Act{Kind: Checkpoint}, Answer{}, api.OK)
	if y.Disk().Steps() == steps {
		t.Error("P22.1: a Checkpoint flushes")
	}
	for s := range f.Super().Segs() {
		if i, _ := f.Segment(s); i.State == usage.Used {
			step(t, y, Act{Kind: Clean, N: s}, Answer{N: i.Live}, api.OK)
			break
		}
	}
	step(t, y, Act{Kind: Clean, N: 99}, Answer{}, api.ErrRange)
	step(t, y, Act{Kind: Run, N: 1, Size: 5}, Answer{}, api.OK)
	step(t, y, Act{Kind: Run, N: 1, Size: -1}, Answer{}, api.ErrRange)
	y.Do(Act{Kind: Write, Path: "/f", At: 64 * 3, Data: make([]byte, 64*30)})
	step(t, y, Act{Kind: Tick}, Answer{}, api.OK)
	want := min(2, len(cleaner.Cands(f)))
	step(t, y, Act{Kind: Run, N: 99, Size: want}, Answer{N: want}, api.OK)
}

// P22.1
func TestArmAndCrash(t *testing.T) {
	y := made(t, usual())
	y.Do(Act{Kind: Create, Path: "/a"})
	y.Do(Act{Kind: Open, Path: "/a"})
	step(t, y, Act{Kind: Arm, N: -1}, Answer{}, api.ErrRange)
	step(t, y, Act{Kind: Arm, N: 3, Size: 50}, Answer{}, api.OK)
	step(t, y, Act{Kind: Sync}, Answer{}, api.ErrDead)
	step(t, y, Act{Kind: Create, Path: "/b"}, Answer{}, api.ErrDead)
	step(t, y, Act{Kind: Arm, N: 3}, Answer{}, api.ErrDead)
	d, v := y.Disk(), y.VFS()
	step(t, y, Act{Kind: Crash}, Answer{}, api.OK)
	if y.Disk() == d || y.VFS() == v || y.VFS().FS().Disk() != y.Disk() || len(y.VFS().Walk()) != 0 {
		t.Error("P22.1: behind a Crash")
	}
	step(t, y, Act{Kind: ReadAt}, Answer{}, api.ErrFd)
	step(t, y, Act{Kind: Create, Path: "/b"}, Answer{N: 3}, api.OK)
	// The kernel is of the new one.
	step(t, y, Act{Kind: Sync}, Answer{}, api.OK)
	step(t, y, Act{Kind: Bmapv, L: []api.BlockID{{Ino: 3, Lbn: 600}}}, Answer{Addrs: []int{y.VFS().FS().Where(3, 600)}}, api.OK)
	// What can't be mounted leaves all as it was.
	d, v = y.Disk(), y.VFS()
	was, _ := d.Read(0)
	d.Write(0, make([]byte, 64))
	step(t, y, Act{Kind: Crash, Keep: []bool{true}}, Answer{}, api.ErrSum)
	step(t, y, Act{Kind: Crash, N: 0, Size: 1}, Answer{}, api.ErrSum)
	if y.Disk() != d || y.VFS() != v {
		t.Error("P22.1: a refused Crash")
	}
	step(t, y, Act{Kind: Create, Path: "/c"}, Answer{N: 4}, api.OK)
	step(t, y, Act{Kind: Crash, N: 0, Size: 8}, Answer{}, api.ErrSum)
	step(t, y, Act{Kind: Crash, N: 1, Size: 15}, Answer{}, api.OK)
	if b, _ := y.Disk().Read(0); !bytes.Equal(b, was) || !slices.Equal(y.VFS().Walk(), []string{"/b"}) {
		t.Error("P22.1: what isn't kept is gone")
	}
}

// numbered is what an act tells whose answer is a number.
func numbered(n int, e api.Errno) string { return told(Answer{N: n}, e) }

// ofTree does an act of a tree.
func ofTree(x *tree.Tree, a Act) string {
	switch a.Kind {
	case Create:
		return numbered(x.Create(a.Path))
	case Mkdir:
		return numbered(x.Mkdir(a.Path))
	case Link:
		return told(Answer{}, x.Link(a.Old, a.Path))
	case Unlink:
		return told(Answer{}, x.Unlink(a.Path))
	case Rmdir:
		return told(Answer{}, x.Rmdir(a.Path))
	case Rename:
		return told(Answer{}, x.Rename(a.Old, a.Path))
	case Write:
		return told(Answer{}, x.Write(a.Path, a.At, a.Data))
	case Truncate:
		return told(Answer{}, x.Truncate(a.Path, a.At))
	}
	b, e := x.Read(a.Path, a.At, a.N)
	return told(Answer{Data: b}, e)
}

func told(a Answer, e api.Errno) string { return fmt.Sprint(a.N, a.Data, len(a.Addrs), int(e)) }

func isFull(s string) bool { return strings.HasSuffix(s, " 28") }
func isDead(s string) bool { return strings.HasSuffix(s, " 102") }

func somePath(r *rand.Rand) string {
	p := ""
	for range 1 + r.Intn(3) {
		p += "/" + string("abcd"[r.Intn(4)])
	}
	return p
}

// ofPaths answers an act of a tree's by chance.
func ofPaths(r *rand.Rand) Act {
	a := Act{Kind: 1 + r.Intn(9), Path: somePath(r), Old: somePath(r), At: r.Intn(700), N: r.Intn(900), Data: make([]byte, r.Intn(300))}
	r.Read(a.Data)
	return a
}

// ofNobody answers an act of the kernel and the cleaner by chance.
func ofNobody(r *rand.Rand, y *Yard) Act {
	f := y.VFS().FS()
	segs := f.Super().Segs()
	l := cleaner.Names(y.Disk(), f.Super(), r.Intn(segs))
	for range r.Intn(4) {
		l = append(l, api.BlockID{Ino: r.Intn(9), Version: r.Intn(2), Lbn: r.Intn(20) - 8, Addr: r.Intn(300)})
	}
	return []Act{
		{Kind: Bmapv, L: l[:min(64, len(l))]}, {Kind: Markv, L: l[:min(64, len(l))]}, {Kind: Segclean, N: r.Intn(segs+2) - 1},
		{Kind: Clean, N: r.Intn(segs+2) - 1}, {Kind: Run, N: r.Intn(segs), Size: r.Intn(5)},
	}[r.Intn(5)]
}

// picture tells a whole tree.
func picture(x interface {
	Walk() []string
	Stat(path string) (api.Stat, api.Errno)
	Read(path string, at, n int) ([]byte, api.Errno)
}) string {
	var b strings.Builder
	for _, p := range x.Walk() {
		s, e := x.Stat(p)
		fmt.Fprintln(&b, p, s, e)
		if s.Kind == api.KFile {
			d, e := x.Read(p, 0, 4096)
			fmt.Fprintf(&b, "%x %d", d, e)
		}
	}
	return b.String()
}

func someGeometry(r *rand.Rand) geom.Super {
	for {
		s := geom.Super{Blocks: 150 + r.Intn(1500), SegBlocks: 8 + r.Intn(57), Inodes: 4 + r.Intn(14)}
		if s.Check() == api.OK {
			return s
		}
	}
}

// P22.2, P22.4
func TestNobodyMatters(t *testing.T) {
	t.Parallel()
seeds:
	for seed := range 40 {
		r := rand.New(rand.NewSource(int64(seed)))
		s := someGeometry(r)
		y, z := made(t, s), made(t, s)
		x, _ := tree.New(s.Inodes)
		for range 200 {
			a := ofPaths(r)
			got, other := told(y.Do(a)), told(z.Do(a))
			if isFull(got) || isFull(other) {
				// From here on they may be unlike.
				continue seeds
			}
			if want := ofTree(x, a); got != want || other != want {
				t.Fatalf("P22.2: %+v: %s and %s, want %s", a, got, other, want)
			}
			for range r.Intn(3) {
				y.Do(ofNobody(r, y))
			}
			if r.Intn(9) == 0 {
				a := Act{Kind: []int{Sync, Tick, Checkpoint}[r.Intn(3)]}
				if _, e := y.Do(a); e != api.OK {
					t.Fatalf("P22.1: %d", e)
				}
				z.Do(a)
			}
		}
		if p := picture(x); picture(y.VFS()) != p || picture(z.VFS()) != p {
			t.Fatalf("P22.4: %s and %s, want %s", picture(y.VFS()), picture(z.VFS()), p)
		}
	}
}

// prefix is the trees that may be there behind a crash.
type prefix struct {
	n    int
	acts [][]Act
	may  []string
}

func (p *prefix) tree() *tree.Tree {
	x, _ := tree.New(p.n)
	for _, a := range p.acts[len(p.acts)-1] {
		ofTree(x, a)
	}
	return x
}

// P22.3
func TestPrefix(t *testing.T) {
	t.Parallel()
	for seed := range 80 {
		r := rand.New(rand.NewSource(int64(seed)))
		s := someGeometry(r)
		y := made(t, s)
		p := &prefix{s.Inodes, [][]Act{nil}, []string{""}}
		for range 6 {
			y.Do(Act{Kind: Arm, N: r.Intn(250)})
			act(t, r, y, p)
			n := len(y.Disk().Queue())
			keep := make([]bool, n)
			for k := range keep {
				keep[k] = r.Intn(2) == 0
			}
			if _, e := y.Do(Act{Kind: Crash, Keep: keep, N: r.Intn(n + 1), Size: r.Intn(16)}); e != api.OK {
				t.Fatalf("P22.3: Mount: %d", e)
			}
			there := picture(y.VFS())
			i := slices.Index(p.may, there)
			if i < 0 {
				t.Fatalf("P22.3: there is %s, want one of %q", there, p.may)
			}
			p.acts, p.may = p.acts[i:i+1], p.may[i:i+1]
		}
	}
}

// act goes on with a yard till the power goes.
func act(t *testing.T, r *rand.Rand, y *Yard, p *prefix) {
	t.Helper()
	x := p.tree()
	for range 250 {
		a := ofPaths(r)
		got := told(y.Do(a))
		if isDead(got) {
			return
		}
		if !isFull(got) {
			if want := ofTree(x, a); got != want {
				t.Fatalf("P22.2: %+v: %s, want %s", a, got, want)
			}
			last := len(p.acts) - 1
			p.acts = append(p.acts, append(slices.Clone(p.acts[last]), a))
			p.may = append(p.may, picture(x))
		}
		if r.Intn(3) == 0 {
			y.Do(ofNobody(r, y))
		}
		if r.Intn(9) == 0 {
			if _, e := y.Do(Act{Kind: []int{Sync, Tick, Checkpoint}[r.Intn(3)]}); e == api.OK {
				last := len(p.acts) - 1
				p.acts, p.may = p.acts[last:], p.may[last:]
			}
		}
	}
}

// P22.5
func TestNothingIsKeptOrShared(t *testing.T) {
	y := made(t, usual())
	y.Do(Act{Kind: Create, Path: "/f"})
	b := append([]byte("abc"), 9, 9)
	y.Do(Act{Kind: Write, Path: "/f", Data: b[:3]})
	b[0] = 'x'
	a, _ := y.Do(Act{Kind: Read, Path: "/f", N: 9})
	a.Data[1] = 'x'
	if a, _ := y.Do(Act{Kind: Read, Path: "/f", N: 9}); string(a.Data) != "abc" || b[3] != 9 {
		t.Errorf("P22.5: %q", a.Data)
	}
	y.Do(Act{Kind: Sync})
	l := []api.BlockID{{Ino: 3, Lbn: 0, Addr: y.VFS().FS().Where(3, 0)}}
	was := slices.Clone(l)
	m, _ := y.Do(Act{Kind: Bmapv, L: l})
	m.Addrs[0] = 0
	y.Do(Act{Kind: Markv, L: l})
	keep := []bool{true, false}
	y.Do(Act{Kind: Crash, Keep: keep})
	if !slices.Equal(l, was) || !keep[0] || keep[1] {
		t.Error("P22.5: what is handed in is changed")
	}
}

// P22.3: what was mounted is mounted again, as it is.
func TestSameAgain(t *testing.T) {
	y := made(t, usual())
	y.Do(Act{Kind: Mkdir, Path: "/d"})
	y.Do(Act{Kind: Sync})
	d := y.Disk().Crash(nil, -1, 0)
	for range 2 {
		v, e := vfs.Mount(d)
		if e != api.OK || picture(v) != picture(y.VFS()) {
			t.Errorf("P22.3: %d", e)
		}
	}
}
