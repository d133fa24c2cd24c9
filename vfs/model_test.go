package vfs_test

import (
	"fmt"
	"math/rand"
	"slices"
	"strings"
	"testing"

	"marl/api"
	"marl/disk"
	"marl/entry"
	"marl/geom"
	"marl/tree"
	. "marl/vfs"
)

// calls are those that a tree and a file system by paths have alike.
type calls interface {
	Create(path string) (int, api.Errno)
	Mkdir(path string) (int, api.Errno)
	Link(old, path string) api.Errno
	Unlink(path string) api.Errno
	Rmdir(path string) api.Errno
	Rename(old, path string) api.Errno
	Write(path string, at int, data []byte) api.Errno
	Read(path string, at, n int) ([]byte, api.Errno)
	Truncate(path string, size int) api.Errno
	Stat(path string) (api.Stat, api.Errno)
	List(path string) ([]string, api.Errno)
	Walk() []string
}

// call is one of them.
type call struct {
	kind  int
	a, b  string
	at, n int
	data  []byte
}

func (c call) do(x calls) string {
	switch c.kind {
	case 0:
		return fmt.Sprint(x.Create(c.a))
	case 1:
		return fmt.Sprint(x.Mkdir(c.a))
	case 2:
		return fmt.Sprint(0, x.Link(c.a, c.b))
	case 3:
		return fmt.Sprint(0, x.Unlink(c.a))
	case 4:
		return fmt.Sprint(0, x.Rmdir(c.a))
	case 5:
		return fmt.Sprint(0, x.Rename(c.a, c.b))
	case 6:
		return fmt.Sprint(0, x.Write(c.a, c.at, c.data))
	case 7:
		return fmt.Sprint(0, x.Truncate(c.a, c.at))
	case 8:
		b, e := x.Read(c.a, c.at, c.n)
		return fmt.Sprint(b, e)
	case 9:
		s, e := x.Stat(c.a)
		return fmt.Sprint(s, e)
	}
	l, e := x.List(c.a)
	return fmt.Sprint(l, len(l), e)
}

func somePath(r *rand.Rand) string {
	p := ""
	for range 1 + r.Intn(4) {
		p += "/" + string("abcdef"[r.Intn(3+r.Intn(4))])
	}
	switch r.Intn(30) {
	case 0:
		return p + "/"
	case 1:
		return "/"
	case 2:
		return p + "/123456789012345"
	case 3:
		return p[1:]
	}
	return p
}

func someCall(r *rand.Rand) call {
	c := call{kind: r.Intn(11), a: somePath(r), b: somePath(r), at: r.Intn(500), n: r.Intn(600), data: make([]byte, r.Intn(200))}
	if r.Intn(10) == 0 {
		c.at, c.n, c.data = r.Intn(39000)-100, r.Intn(4300)-100, make([]byte, r.Intn(4200))
	}
	r.Read(c.data)
	return c
}

const full = "0 28"

// picture tells a whole tree.
func picture(x calls) string {
	var b strings.Builder
	for _, p := range append(x.Walk(), "/") {
		s, e := x.Stat(p)
		fmt.Fprintln(&b, p, s, e)
		if s.Kind == api.KFile {
			for at := 0; at < s.Size; at += 4096 {
				d, e := x.Read(p, at, 4096)
				fmt.Fprintf(&b, "%x %d", d, e)
			}
			continue
		}
		l, e := x.List(p)
		fmt.Fprintln(&b, l, e)
	}
	return b.String()
}

// history is what was called, so that a tree can be made of it again.
type history struct {
	n    int
	done []call
}

func (h *history) tree(t *testing.T) *tree.Tree {
	t.Helper()
	x, e := tree.New(h.n)
	if e != api.OK {
		t.Fatal(e)
	}
	for _, c := range h.done {
		c.do(x)
	}
	return x
}

func made(t *testing.T, s geom.Super) *VFS {
	t.Helper()
	d, _ := disk.New(s.Blocks)
	v, e := Format(d, s)
	if e != api.OK {
		t.Fatalf("P21.1: Format(%v): %d", s, e)
	}
	return v
}

func big(inodes int) geom.Super { return geom.Super{Blocks: 2000, SegBlocks: 16, Inodes: inodes} }

func crash(r *rand.Rand, d *disk.Disk) *disk.Disk {
	n := len(d.Queue())
	keep := make([]bool, n)
	for k := range keep {
		keep[k] = r.Intn(2) == 0
	}
	return d.Crash(keep, r.Intn(n+1), r.Intn(16))
}

func opened(t *testing.T, d *disk.Disk) *VFS {
	t.Helper()
	v, e := Mount(d)
	if e != api.OK {
		t.Fatalf("P21.2: Mount: %d", e)
	}
	return v
}

// dirBlock is a block of entries.
func dirBlock(t *testing.T, l ...entry.DirEntry) []byte {
	t.Helper()
	var x [4]entry.DirEntry
	copy(x[:], l)
	b, e := entry.DirBlock(x)
	if e != api.OK {
		t.Fatal(e)
	}
	return b
}

func someGeometry(r *rand.Rand) geom.Super {
	for {
		s := geom.Super{Blocks: 100 + r.Intn(1500), SegBlocks: 8 + r.Intn(57), Inodes: 4 + r.Intn(14)}
		if s.Check() == api.OK {
			return s
		}
	}
}

// contains tells whether a picture is among those.
func contains(l []string, p string) bool { return slices.Contains(l, p) }
