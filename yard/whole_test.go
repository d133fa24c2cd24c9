package yard_test

import (
	"math/rand"
	"testing"

	"marl/api"
	"marl/geom"
	"marl/tree"
	"marl/vfs"
	. "marl/yard"
)

// small answers an act that leaves a tree small.
func small(r *rand.Rand) Act {
	a := ofPaths(r)
	switch a.Kind {
	case Write:
		a.At %= 600
	case Mkdir, Create, Link:
		a.Path = a.Path[:2]
	}
	return a
}

// P1, P2, P4: as long as a tree is small, and the cleaner runs, each act answers what a tree's does, and nothing is refused.
func TestSmallTrees(t *testing.T) {
	t.Parallel()
	for seed := range 3 {
		r := rand.New(rand.NewSource(int64(seed)))
		y := made(t, geom.Super{Blocks: 1800, SegBlocks: 32, Inodes: 40})
		x, _ := tree.New(40)
		for k := range 3000 {
			a := small(r)
			if got, want := told(y.Do(a)), ofTree(x, a); got != want {
				t.Fatalf("P4: act %d, %+v: %s, want %s", k, a, got, want)
			}
			if r.Intn(10) > 0 {
				continue
			}
			if _, e := y.Do(Act{Kind: Sync}); e != api.OK {
				t.Fatalf("P4: Sync: %d", e)
			}
			if _, e := y.Do(Act{Kind: Run, N: 20, Size: 40}); e != api.OK || y.VFS().FS().Clean() < 20 {
				t.Fatalf("P4: Run: %d; %d are clean", e, y.VFS().FS().Clean())
			}
		}
		if picture(y.VFS()) != picture(x) {
			t.Fatalf("P1: %s, want %s", picture(y.VFS()), picture(x))
		}
	}
}

// P3, P5: what is mounted again, and twice, is the same; nothing that answered OK is lost ahead of the power.
func TestAgainAndAgain(t *testing.T) {
	t.Parallel()
	for seed := range 20 {
		r := rand.New(rand.NewSource(int64(seed)))
		y := made(t, someGeometry(r))
		for range 20 {
			for range r.Intn(12) {
				y.Do(ofPaths(r))
				y.Do(ofNobody(r, y))
			}
			was := picture(y.VFS())
			if _, e := y.Do(Act{Kind: Sync}); e != api.OK {
				t.Fatalf("P3: Sync: %d", e)
			}
			for range 1 + r.Intn(3) {
				if _, e := y.Do(Act{Kind: Crash, N: -1}); e != api.OK || picture(y.VFS()) != was {
					t.Fatalf("P5: %d: %s, want %s", e, picture(y.VFS()), was)
				}
			}
			if _, e := y.Do(Act{Kind: ReadAt, N: 0}); e != api.ErrFd {
				t.Fatalf("P3: a descriptor is open: %d", e)
			}
			y.Do(Act{Kind: Open, Path: "/a"})
		}
		// Of any disk, too.
		d := y.Disk()
		for range 3 {
			b, _ := d.Read(r.Intn(d.Size()))
			d.Write(r.Intn(d.Size()), b)
		}
		if v, e := vfs.Mount(d); e == api.OK {
			was := picture(v)
			if v, e := vfs.Mount(d); e != api.OK || picture(v) != was {
				t.Fatalf("P5: mounted twice it is another one: %d", e)
			}
		}
	}
}
