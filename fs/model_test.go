package fs_test

import (
	"bytes"
	"fmt"
	"hash/crc32"
	"maps"
	"math/rand"
	"slices"
	"testing"

	"marl/api"
	"marl/disk"
	. "marl/fs"
	"marl/geom"
	"marl/usage"
)

// thing is an inode told plainly.
type thing struct {
	version, kind, links int
	data                 []byte
}

// model is inodes and bytes in memory.
type model struct {
	n      int
	things map[int]thing
	next   map[int]int // the versions of those that aren't there
	loose  bool        // these versions aren't known
}

func newModel(n int) *model {
	return &model{n: n, things: map[int]thing{2: {kind: api.KDir, links: 1}}, next: map[int]int{}}
}

// String tells a model in few words.
func (m *model) String() string {
	s := ""
	for _, i := range live(m) {
		x := m.things[i]
		s += fmt.Sprintf("[%d: version %d, kind %d, %d links, %d bytes %x]", i, x.version, x.kind, x.links, len(x.data), crc32.ChecksumIEEE(x.data))
	}
	return s
}

func (m *model) copied() *model {
	c := &model{m.n, maps.Clone(m.things), maps.Clone(m.next), m.loose}
	for i, x := range c.things {
		x.data = bytes.Clone(x.data)
		c.things[i] = x
	}
	return c
}

func (m *model) least() int {
	for i := 2; i <= m.n; i++ {
		if _, ok := m.things[i]; !ok && m.next[i] < 65535 {
			return i
		}
	}
	return 0
}

func (m *model) equal(o *model) bool {
	return maps.EqualFunc(m.things, o.things, func(a, b thing) bool {
		return a.version == b.version && a.kind == b.kind && a.links == b.links && bytes.Equal(a.data, b.data)
	})
}

// seen tells what a file system answers of its inodes.
func seen(t *testing.T, f *FS) *model {
	t.Helper()
	m := &model{n: f.Super().Inodes, things: map[int]thing{}, next: map[int]int{}}
	for _, ino := range f.Inodes() {
		s, e := f.Stat(ino)
		if e != api.OK || s.Ino != ino {
			t.Fatalf("P18.1: Stat(%d): %v, %d", ino, s, e)
		}
		x := thing{s.Version, s.Kind, s.Links, nil}
		for at := 0; at < s.Size; at += 4096 {
			b, e := f.Read(ino, at, 4096)
			if e != api.OK || len(b) != min(4096, s.Size-at) {
				t.Fatalf("P18.1: Read(%d, %d): %d bytes, %d", ino, at, len(b), e)
			}
			x.data = append(x.data, b...)
		}
		m.things[ino] = x
	}
	return m
}

func same(t *testing.T, f *FS, m *model) {
	t.Helper()
	if s := seen(t, f); !s.equal(m) {
		t.Fatalf("P18.1: there is %v, want %v", s, m)
	}
}

// sound holds what P18.3 asks against where everything is told to stand.
func sound(t *testing.T, f *FS) {
	t.Helper()
	live := map[int]int{}
	stands := map[int]int{}
	for _, ino := range append(f.Inodes(), api.Ifile) {
		for lbn := -700; lbn <= 600; lbn++ {
			addr := f.Where(ino, lbn)
			if addr == 0 {
				continue
			}
			if stands[addr]++; stands[addr] > 1 {
				t.Fatalf("P18.3: two blocks stand at %d", addr)
			}
			s, _, e := f.Super().Of(addr)
			if e != api.OK {
				t.Fatalf("P18.3: a block stands outside the segments, at %d", addr)
			}
			live[s]++
		}
	}
	clean, active := 0, 0
	for s := range f.Super().Segs() {
		i, e := f.Segment(s)
		if e != api.OK || i.Live != live[s] {
			t.Fatalf("P18.3: segment %d: Live %d, want %d", s, i.Live, live[s])
		}
		if i.State == usage.Clean {
			clean++
			if i.Live > 0 {
				t.Fatalf("P18.3: clean segment %d has %d live", s, i.Live)
			}
		}
		if i.State == usage.Active {
			active++
		}
	}
	if clean != f.Clean() || active != 1 {
		t.Fatalf("P18.1: %d segments are clean, %d active", f.Clean(), active)
	}
}

// made answers a new file system.
func made(t *testing.T, blocks, size, inodes int) *FS {
	t.Helper()
	d, e := disk.New(blocks)
	if e != api.OK {
		t.Fatal(e)
	}
	f, e := Mkfs(d, geom.Super{Blocks: blocks, SegBlocks: size, Inodes: inodes})
	if e != api.OK {
		t.Fatalf("P18.1: Mkfs: %d", e)
	}
	return f
}

func opened(t *testing.T, d *disk.Disk) *FS {
	t.Helper()
	f, e := Mount(d)
	if e != api.OK {
		t.Fatalf("P18.2: Mount: %d", e)
	}
	return f
}

func crash(r *rand.Rand, d *disk.Disk) *disk.Disk {
	n := len(d.Queue())
	keep := make([]bool, n)
	for k := range keep {
		keep[k] = r.Intn(2) == 0
	}
	return d.Crash(keep, r.Intn(n+1), r.Intn(16))
}

// change does one thing by chance, with file system and model alike; it answers false, if the power has gone.
func change(t *testing.T, r *rand.Rand, f *FS, m *model) bool {
	t.Helper()
	ino := 1 + r.Intn(m.n+1)
	x, there := m.things[ino]
	var got, want api.Errno
	if !there {
		want = api.ErrNone
	}
	done := func() { m.things[ino] = x }
	switch r.Intn(10) {
	case 0, 1:
		kind := r.Intn(4)
		var i int
		i, got = f.Make(kind)
		want = api.OK
		switch {
		case kind != 1 && kind != 2:
			want = api.ErrRange
		case m.least() == 0:
			want = api.ErrFiles
		case got == api.OK:
			ino, x = m.least(), thing{version: m.next[m.least()], kind: kind, links: 1}
			if n, _ := f.Stat(i); m.loose {
				x.version = max(x.version, n.Version)
			}
			if i != ino {
				t.Fatalf("P18.1: Make: %d, want %d", i, ino)
			}
		}
	case 2:
		got = f.Remove(ino)
		if ino == 2 {
			want = api.ErrPerm
		}
		done = func() {
			m.next[ino] = x.version + 1
			delete(m.things, ino)
		}
	case 3:
		n := r.Intn(104) - 1
		got = f.SetLinks(ino, n)
		if there && (n < 0 || n > 100) {
			want = api.ErrRange
		}
		x.links = n
	case 4, 5:
		size := r.Intn(2000)
		if r.Intn(8) == 0 {
			size = r.Intn(40000) - 500
		}
		got = f.Truncate(ino, size)
		switch {
		case !there:
		case size < 0:
			want = api.ErrRange
		case size > 38400:
			want = api.ErrBig
		default:
			b := make([]byte, size)
			copy(b, x.data)
			x.data = b
		}
	default:
		at, data := r.Intn(2000), make([]byte, r.Intn(300))
		if r.Intn(8) == 0 {
			at, data = r.Intn(39000)-300, make([]byte, r.Intn(4200))
		}
		r.Read(data)
		got = f.Write(ino, at, data)
		switch {
		case !there:
		case at < 0 || len(data) > 4096:
			want = api.ErrRange
		case at+len(data) > 38400:
			want = api.ErrBig
		case len(data) > 0:
			b := make([]byte, max(len(x.data), at+len(data)))
			copy(b, x.data)
			copy(b[at:], data)
			x.data = b
		}
	}
	if got == api.ErrDead {
		return false
	}
	if got != want && !(want == api.OK && got == api.ErrFull) {
		t.Fatalf("P18.1: inode %d: %d, want %d", ino, got, want)
	}
	if got == api.OK {
		done()
	}
	return true
}

// written lets the disk have the changes.
func written(r *rand.Rand, f *FS) api.Errno {
	if r.Intn(2) == 0 {
		return f.Flush()
	}
	return f.Checkpoint()
}

// geometries are some of all sizes of segments.
func someGeometry(r *rand.Rand) geom.Super {
	for {
		s := geom.Super{Blocks: 64 + r.Intn(1200), SegBlocks: 8 + r.Intn(57), Inodes: 4 + r.Intn(20)}
		if r.Intn(5) == 0 {
			s.Inodes = 200
		}
		if s.Check() == api.OK {
			return s
		}
	}
}

func live(m *model) []int { return slices.Sorted(maps.Keys(m.things)) }
