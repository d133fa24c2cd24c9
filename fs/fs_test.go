package fs_test

import (
	"bytes"
	"math"
	"math/rand"
	"slices"
	"testing"

	"marl/api"
	"marl/disk"
	"marl/entry"
	. "marl/fs"
	"marl/geom"
	"marl/point"
	"marl/seg"
	"marl/usage"
)

// P18.1
func TestExampleOfTheChapter(t *testing.T) {
	f := made(t, 300, 16, 20)
	if ino, e := f.Make(api.KFile); ino != 3 || e != api.OK {
		t.Errorf("P18.1: Make: %d, %d", ino, e)
	}
	if e := f.Write(3, 0, []byte("hi")); e != api.OK {
		t.Errorf("P18.1: Write: %d", e)
	}
	if e := f.Flush(); e != api.OK {
		t.Errorf("P18.1: Flush: %d", e)
	}
	g := opened(t, f.Disk().Crash(nil, -1, 0))
	if b, e := g.Read(3, 0, 9); string(b) != "hi" || e != api.OK {
		t.Errorf("P18.2: %q, %d", b, e)
	}
}

// P18.1
func TestMkfs(t *testing.T) {
	d, _ := disk.New(300)
	for _, s := range []geom.Super{{}, {Blocks: 301, SegBlocks: 16, Inodes: 20}, {Blocks: 300, SegBlocks: 7, Inodes: 20}, {Blocks: 300, SegBlocks: 16, Inodes: 3}} {
		if f, e := Mkfs(d, s); f != nil || e != api.ErrRange || d.Steps() != 0 {
			t.Errorf("P18.1: Mkfs(%v): %v, %d", s, f, e)
		}
	}
	// In each geometry a checkpoint has room; whatever stood on the disk.
	r := rand.New(rand.NewSource(1))
	for range 60 {
		s := someGeometry(r)
		d, _ := disk.New(s.Blocks + r.Intn(3))
		for i := range d.Size() {
			b := make([]byte, 64)
			r.Read(b)
			d.Write(i, b)
		}
		f, e := Mkfs(d, s)
		if e != api.OK {
			t.Fatalf("P18.1: Mkfs(%v): %d", s, e)
		}
		same(t, f, newModel(s.Inodes))
		sound(t, f)
		if f.Super() != s || f.Disk() != d || f.Dead() {
			t.Fatalf("P18.1: Super %v, want %v", f.Super(), s)
		}
		same(t, opened(t, d.Crash(nil, -1, 0)), newModel(s.Inodes))
	}
}

// P18.1
func TestRefusals(t *testing.T) {
	f := made(t, 300, 16, 5)
	f.Make(api.KFile)
	f.Write(3, 0, []byte("abc"))
	for _, ino := range []int{-1, 0, 1, 4, 6, 201, math.MaxInt, math.MinInt} {
		s, e1 := f.Stat(ino)
		b, e2 := f.Read(ino, -1, -1)
		if s != (api.Inode{}) || b != nil || e1 != api.ErrNone || e2 != api.ErrNone || f.Remove(ino) != api.ErrNone || f.SetLinks(ino, -1) != api.ErrNone || f.Write(ino, -1, nil) != api.ErrNone || f.Truncate(ino, -1) != api.ErrNone {
			t.Errorf("P18.1: inode %d: %v, %d, %v, %d", ino, s, e1, b, e2)
		}
	}
	for i, c := range []struct{ got, want api.Errno }{
		{f.Remove(2), api.ErrPerm},
		{f.SetLinks(3, -1), api.ErrRange}, {f.SetLinks(3, 101), api.ErrRange}, {f.SetLinks(3, 100), api.OK}, {f.SetLinks(3, 0), api.OK},
		{f.Write(3, -1, nil), api.ErrRange}, {f.Write(3, math.MinInt, []byte{1}), api.ErrRange}, {f.Write(3, 0, make([]byte, 4097)), api.ErrRange}, {f.Write(3, math.MaxInt, make([]byte, 4097)), api.ErrRange},
		{f.Write(3, 38400, []byte{1}), api.ErrBig}, {f.Write(3, math.MaxInt, []byte{1}), api.ErrBig}, {f.Write(3, 38401, nil), api.ErrBig}, {f.Write(3, 38400, nil), api.OK},
		{f.Truncate(3, -1), api.ErrRange}, {f.Truncate(3, 38401), api.ErrBig}, {f.Truncate(3, 38400), api.OK}, {f.Truncate(3, 3), api.OK},
		{f.Admit(-1, 0), api.ErrRange}, {f.Admit(0, -1), api.ErrRange}, {f.Admit(81, 0), api.ErrRange}, {f.Admit(0, 81), api.ErrRange}, {f.Admit(0, 0), api.OK},
		{f.Rewrite(3, 0), api.ErrNone}, {f.Rewrite(9, 600), api.ErrNone}, {f.Rewrite(1, 600), api.OK}, {f.Rewrite(2, 601), api.ErrNone}, {f.Rewrite(2, -7), api.ErrNone},
	} {
		if c.got != c.want {
			t.Errorf("P18.1: refusal %d: %d, want %d", i, c.got, c.want)
		}
	}
	for _, c := range [][2]int{{-1, 5}, {0, -1}, {0, 4097}, {math.MinInt, math.MaxInt}} {
		if b, e := f.Read(3, c[0], c[1]); b != nil || e != api.ErrRange {
			t.Errorf("P18.1: Read %v: %v, %d", c, b, e)
		}
	}
	for _, c := range []struct {
		at, n int
		b     string
	}{{0, 4096, "abc"}, {1, 1, "b"}, {3, 9, ""}, {math.MaxInt, 4096, ""}, {2, 0, ""}} {
		if b, e := f.Read(3, c.at, c.n); string(b) != c.b || e != api.OK {
			t.Errorf("P18.1: Read(%d, %d): %q, %d", c.at, c.n, b, e)
		}
	}
	for _, kind := range []int{0, 3, -1} {
		if ino, e := f.Make(kind); ino != 0 || e != api.ErrRange {
			t.Errorf("P18.1: Make(%d): %d, %d", kind, ino, e)
		}
	}
	f.Make(api.KFile)
	f.Make(api.KDir)
	if ino, e := f.Make(api.KFile); ino != 0 || e != api.ErrFiles {
		t.Errorf("P18.1: Make: %d, %d", ino, e)
	}
	if ino, e := f.Make(0); ino != 0 || e != api.ErrRange {
		t.Errorf("P18.1: Make: %d, %d", ino, e)
	}
	for _, s := range []int{-1, 18, math.MaxInt} {
		if i, e := f.Segment(s); i != (usage.Info{}) || e != api.ErrRange {
			t.Errorf("P18.1: Segment(%d): %v, %d", s, i, e)
		}
	}
	for _, c := range [][2]int{{3, 601}, {3, -7}, {3, math.MinInt}, {0, 600}, {-1, 0}, {300, 600}} {
		if a := f.Where(c[0], c[1]); a != 0 {
			t.Errorf("P18.1: Where%v: %d", c, a)
		}
	}
}

// P18.1, P18.3
func TestRandomCalls(t *testing.T) {
	t.Parallel()
	for seed := range 60 {
		r := rand.New(rand.NewSource(int64(seed)))
		s := someGeometry(r)
		f, m := made(t, s.Blocks, s.SegBlocks, s.Inodes), newModel(s.Inodes)
		for range 200 {
			change(t, r, f, m)
			if r.Intn(10) == 0 {
				if e := written(r, f); e != api.OK {
					t.Fatalf("P18.1: %v: %d", s, e)
				}
			}
			if r.Intn(10) == 0 {
				rewrite(t, r, f, m)
			}
			if r.Intn(20) == 0 {
				same(t, f, m)
				sound(t, f)
			}
		}
		same(t, f, m)
		sound(t, f)
		if e := f.Checkpoint(); e != api.OK {
			t.Fatalf("P18.1: Checkpoint: %d", e)
		}
		same(t, f, m)
		sound(t, f)
		g := opened(t, f.Disk())
		same(t, g, m)
		sound(t, g)
	}
}

// rewrite marks some blocks.
func rewrite(t *testing.T, r *rand.Rand, f *FS, m *model) {
	t.Helper()
	for range r.Intn(12) {
		all := append(live(m), api.Ifile)
		ino, lbn := all[r.Intn(len(all))], []int{r.Intn(30), 600, -6, -22, -23, -278, -279, -280}[r.Intn(8)]
		was := f.Where(ino, lbn)
		e := f.Rewrite(ino, lbn)
		if was == 0 && e != api.ErrNone && e != api.ErrDead || was != 0 && e != api.OK && e != api.ErrFull && e != api.ErrDead {
			t.Fatalf("P18.1: Rewrite(%d, %d), which stands at %d: %d", ino, lbn, was, e)
		}
		if f.Where(ino, lbn) != was {
			t.Fatalf("P18.1: Rewrite moves at once")
		}
	}
}

// P18.1
func TestRewrite(t *testing.T) {
	f := made(t, 600, 16, 20)
	f.Make(api.KFile)
	f.Write(3, 0, bytes.Repeat([]byte{1}, 64*30))
	f.Checkpoint()
	m := seen(t, f)
	for _, c := range [][2]int{{3, 0}, {3, 29}, {3, -6}, {3, -22}, {3, 600}, {2, 600}, {1, 0}, {1, 600}} {
		was := f.Where(c[0], c[1])
		if e := f.Rewrite(c[0], c[1]); e != api.OK {
			t.Errorf("P18.1: Rewrite%v: %d", c, e)
		}
		f.Flush()
		if c[0] == 1 && f.Where(c[0], c[1]) != was {
			t.Errorf("P18.1: %v of the map's file moved ahead of a checkpoint", c)
		}
		f.Checkpoint()
		if now := f.Where(c[0], c[1]); now == was || now == 0 {
			t.Errorf("P18.1: %v stands at %d, as it did", c, now)
		}
		same(t, f, m)
		sound(t, f)
	}
	same(t, opened(t, f.Disk()), m)
}

// P18.1: what was rewritten is written once; a cut elsewhere doesn't undo it.
func TestRewriteOnce(t *testing.T) {
	f := made(t, 600, 16, 20)
	f.Make(api.KFile)
	for at := 0; at < 64*300; at += 4096 {
		if e := f.Write(3, at, bytes.Repeat([]byte{1}, 4096)); e != api.OK {
			t.Fatal(e)
		}
		f.Checkpoint()
	}
	f.Rewrite(1, 600)
	f.Checkpoint()
	steps := f.Disk().Steps()
	f.Checkpoint()
	if f.Disk().Steps() != steps {
		t.Errorf("P18.1: it is written again")
	}
	for _, lbn := range []int{-6, -22, -38, 30, 5} {
		was := f.Where(3, lbn)
		if e := f.Rewrite(3, lbn); e != api.OK {
			t.Errorf("P18.1: Rewrite: %d", e)
		}
		n, _ := f.Stat(3)
		f.Truncate(3, n.Size-64*7)
		f.Flush()
		if now := f.Where(3, lbn); now == was || now == 0 {
			t.Errorf("P18.1: %d stands at %d, as it did", lbn, now)
		}
		sound(t, f)
	}
}

// P18.1
func TestWhatWritesNothing(t *testing.T) {
	f := made(t, 300, 16, 20)
	f.Make(api.KFile)
	f.Write(3, 0, []byte("abc"))
	f.Checkpoint()
	steps := f.Disk().Steps()
	f.Flush()
	f.Checkpoint()
	f.Write(3, 9, nil)
	f.Read(3, 0, 9)
	f.Stat(3)
	f.Admit(8, 2)
	f.Flush()
	f.Checkpoint()
	if f.Disk().Steps() != steps {
		t.Errorf("P18.1: %d steps for nothing", f.Disk().Steps()-steps)
	}
	f.SetLinks(3, 7)
	f.Write(3, 1, []byte("x"))
	f.Truncate(3, 2)
	f.Make(api.KDir)
	f.Remove(4)
	if f.Disk().Steps() != steps {
		t.Errorf("P18.1: changes come to the disk ahead of a flush")
	}
}

// P18.1: behind a checkpoint the segments without anything in use are clean, but the active one.
func TestCheckpointCleans(t *testing.T) {
	f := made(t, 400, 16, 9)
	f.Make(api.KFile)
	for range 40 {
		f.Write(3, 0, make([]byte, 640))
		if e := f.Checkpoint(); e != api.OK {
			t.Fatalf("P18.1: %d", e)
		}
		for s := range f.Super().Segs() {
			if i, _ := f.Segment(s); i.State == usage.Used && i.Live == 0 {
				t.Fatalf("P18.1: segment %d isn't clean", s)
			}
		}
		sound(t, f)
	}
}

// P18.1: holes, cut ends, and blocks of pointers that come and go.
func TestCutAndGrow(t *testing.T) {
	f, m := made(t, 2000, 32, 9), newModel(9)
	f.Make(api.KFile)
	x := thing{kind: 1, links: 1}
	put := func(at int, b []byte) {
		if e := f.Write(3, at, b); e != api.OK {
			t.Fatalf("P18.1: Write at %d: %d", at, e)
		}
		d := make([]byte, max(len(x.data), at+len(b)))
		copy(d, x.data)
		copy(d[at:], b)
		x.data = d
		m.things[3] = x
	}
	cut := func(size int) {
		if e := f.Truncate(3, size); e != api.OK {
			t.Fatalf("P18.1: Truncate to %d: %d", size, e)
		}
		d := make([]byte, size)
		copy(d, x.data)
		x.data = d
		m.things[3] = x
	}
	ones := bytes.Repeat([]byte{1}, 4096)
	for i, step := range []func(){
		func() { put(38400-4096, ones) }, func() { put(64*20, ones) }, func() { cut(64*22 + 5) }, func() { cut(64 * 300) }, func() { put(64*279+3, ones[:9]) },
		func() { cut(64 * 280) }, func() { cut(64*279 + 4) }, func() { cut(38400) }, func() { cut(64 * 6) }, func() { put(64*6, ones[:64]) }, func() { cut(64*6 + 1) }, func() { put(64*7, ones[:1]) }, func() { cut(0) }, func() { cut(70) },
	} {
		step()
		same(t, f, m)
		sound(t, f)
		if i%2 == 0 {
			if e := f.Flush(); e != api.OK {
				t.Fatalf("P18.1: Flush: %d", e)
			}
			same(t, f, m)
			sound(t, f)
			g := opened(t, f.Disk().Crash(nil, -1, 0))
			same(t, g, m)
			sound(t, g)
		}
	}
}

// P18.1: more than a cache holds; what was written, and what wasn't yet.
func TestManyBlocks(t *testing.T) {
	f, m := made(t, 4096, 64, 9), newModel(9)
	r := rand.New(rand.NewSource(4))
	for ino := 3; ino < 7; ino++ {
		f.Make(api.KFile)
		x := thing{kind: api.KFile, links: 1}
		for at := 0; at < 38400-4096; at += 4096 {
			b := make([]byte, 4096)
			r.Read(b)
			if e := f.Write(ino, at, b); e != api.OK {
				t.Fatalf("P18.1: Write: %d", e)
			}
			x.data = append(x.data, b...)
			if e := f.Flush(); e != api.OK {
				t.Fatalf("P18.1: Flush: %d", e)
			}
		}
		m.things[ino] = x
	}
	same(t, f, m)
	f.Checkpoint()
	for k := range 300 {
		ino, at := 3+r.Intn(4), r.Intn(36000)
		x := m.things[ino]
		if at >= len(x.data) {
			continue
		}
		if e := f.Write(ino, at, []byte{byte(k)}); e != api.OK && e != api.ErrFull {
			t.Fatalf("P18.1: Write: %d", e)
		} else if e == api.OK {
			x.data[at] = byte(k)
		}
		// What is read lets what was read go, but not what was changed.
		if k%20 == 0 {
			same(t, f, m)
		}
		if k%90 == 89 {
			f.Flush()
		}
	}
	same(t, f, m)
	f.Checkpoint()
	same(t, f, m)
	same(t, opened(t, f.Disk().Crash(nil, -1, 0)), m)
}

// P18.2, P18.3
func TestPower(t *testing.T) {
	t.Parallel()
	full := 0
	for seed := range 250 {
		r := rand.New(rand.NewSource(int64(seed)))
		s := someGeometry(r)
		d, _ := disk.New(s.Blocks)
		if _, e := Mkfs(d, s); e != api.OK {
			t.Fatal(e)
		}
		sure := newModel(s.Inodes)
		for range 6 {
			f := opened(t, d)
			same(t, f, sure)
			m := sure.copied()
			for i, x := range m.things {
				m.next[i] = x.version
			}
			later := sure
			d.Arm(r.Intn(250))
			for alive := true; alive; {
				for range r.Intn(12) {
					if !change(t, r, f, m) {
						t.Fatalf("P18.1: dead ahead of a step")
					}
				}
				if r.Intn(3) == 0 {
					rewrite(t, r, f, m)
				}
				later = m.copied()
				switch e := written(r, f); e {
				case api.OK:
					sure = later
				case api.ErrDead:
					alive = false
				default:
					full++
					t.Fatalf("P18.1: %v: %d", s, e)
				}
				if r.Intn(40) == 0 {
					break
				}
			}
			d = crash(r, d)
			d = mountedAtLast(t, r, d)
			f = opened(t, d)
			sound(t, f)
			got := seen(t, f)
			if !got.equal(sure) && !got.equal(later) {
				t.Fatalf("P18.2: there is %v, want %v or %v", got, sure, later)
			}
			if !got.equal(sure) {
				sure = later
			}
			// Where both are alike, the versions of those that aren't there may be either's.
			sure = sure.copied()
			sure.loose = true
			d = f.Disk()
		}
	}
}

// mountedAtLast lets the power go within mounts, again and again.
func mountedAtLast(t *testing.T, r *rand.Rand, d *disk.Disk) *disk.Disk {
	t.Helper()
	for range r.Intn(4) {
		d.Arm(r.Intn(12))
		if f, e := Mount(d); e != api.OK && e != api.ErrDead || (f == nil) != (e != api.OK) {
			t.Fatalf("P18.2: Mount: %d", e)
		}
		d = crash(r, d)
	}
	return d
}

// P18.1
func TestDead(t *testing.T) {
	for k := range 8 {
		f := made(t, 300, 16, 20)
		f.Make(api.KFile)
		f.Write(3, 0, []byte("abc"))
		m := seen(t, f)
		f.Disk().Arm(k)
		if e := f.Flush(); e != api.ErrDead || !f.Dead() {
			t.Fatalf("P18.1: Flush with %d steps: %d", k, e)
		}
		ino, e := f.Make(0)
		if ino != 0 || e != api.ErrDead || f.Remove(99) != api.ErrDead || f.SetLinks(3, -1) != api.ErrDead || f.Write(99, -1, nil) != api.ErrDead || f.Truncate(99, 0) != api.ErrDead || f.Flush() != api.ErrDead || f.Checkpoint() != api.ErrDead || f.Rewrite(9, 9) != api.ErrDead {
			t.Errorf("P18.1: a dead one answers something else")
		}
		same(t, f, m)
		sound(t, f)
	}
	f := made(t, 300, 16, 20)
	f.Disk().Arm(0)
	if _, e := f.Make(api.KFile); e != api.OK || f.Dead() {
		t.Errorf("P18.1: it hasn't met ErrDead yet: %d", e)
	}
	for k := range 9 {
		d, _ := disk.New(300)
		d.Arm(k)
		if f, e := Mkfs(d, geom.Super{Blocks: 300, SegBlocks: 16, Inodes: 20}); f != nil || e != api.ErrDead || d.Steps() != k {
			t.Errorf("P18.1: Mkfs with %d steps: %v, %d", k, f, e)
		}
	}
}

// P18.1
func TestMountsSteps(t *testing.T) {
	f := made(t, 300, 16, 20)
	f.Make(api.KFile)
	f.Checkpoint()
	d := f.Disk().Crash(nil, -1, 0)
	opened(t, d)
	if d.Steps() > 5 {
		t.Errorf("P18.1: Mount took %d steps", d.Steps())
	}
	for k := range d.Steps() {
		d := f.Disk().Crash(nil, -1, 0)
		d.Arm(k)
		if g, e := Mount(d); g != nil || e != api.ErrDead {
			t.Errorf("P18.1: Mount with %d steps: %v, %d", k, g, e)
		}
	}
}

// P18.1
func TestWhatIsNotMounted(t *testing.T) {
	base := made(t, 300, 16, 20)
	base.Make(api.KFile)
	base.Write(3, 0, bytes.Repeat([]byte{5}, 64*8))
	base.Checkpoint()
	p, _ := point.Load(base.Disk())
	save := func(d *disk.Disk, change func(q *point.Point)) {
		point.Wipe(d)
		q := p
		change(&q)
		if e := point.Save(d, q); e != api.OK {
			t.Fatal(e)
		}
	}
	copyTo := func(d *disk.Disk, from, to int) {
		b, _ := d.Read(from)
		d.Write(to, b)
	}
	for i, c := range []struct {
		change func(d *disk.Disk)
		e      api.Errno
	}{
		{func(d *disk.Disk) {}, api.OK},
		{func(d *disk.Disk) { d.Write(0, make([]byte, 64)) }, api.ErrSum},
		{func(d *disk.Disk) { copyTo(d, 3, 0) }, api.ErrSum},
		{func(d *disk.Disk) {
			b, _ := geom.Encode(geom.Super{Blocks: 301, SegBlocks: 16, Inodes: 20})
			d.Write(0, b)
		}, api.ErrForm},
		{func(d *disk.Disk) {
			b, _ := geom.Encode(geom.Super{Blocks: 300, SegBlocks: 16, Inodes: 28})
			d.Write(0, b)
		}, api.ErrForm},
		{func(d *disk.Disk) { point.Wipe(d) }, api.ErrForm},
		{func(d *disk.Disk) { save(d, func(q *point.Point) {}) }, api.OK},
		{func(d *disk.Disk) { save(d, func(q *point.Point) { q.Ifile = 0 }) }, api.ErrForm},
		{func(d *disk.Disk) { save(d, func(q *point.Point) { q.Ifile = 1 }) }, api.ErrForm},
		{func(d *disk.Disk) { save(d, func(q *point.Point) { q.Ifile = 4000 }) }, api.ErrForm},
		{func(d *disk.Disk) { save(d, func(q *point.Point) { q.Ifile = base.Where(3, 600) }) }, api.ErrForm},
		{func(d *disk.Disk) { save(d, func(q *point.Point) { q.Next = 0 }) }, api.ErrForm},
		{func(d *disk.Disk) { save(d, func(q *point.Point) { q.Next = 299 }) }, api.ErrForm},
		{func(d *disk.Disk) { save(d, func(q *point.Point) { q.Next = 3 + 16*9 + 14 }) }, api.ErrForm},
		{func(d *disk.Disk) { save(d, func(q *point.Point) { q.Next = 3 + 16*9 + 13 }) }, api.OK},
		{func(d *disk.Disk) { save(d, func(q *point.Point) { q.Next = base.Where(3, 0) - 2 }) }, api.ErrForm},
		{func(d *disk.Disk) { save(d, func(q *point.Point) { q.Epoch = 65534 }) }, api.OK},
		{func(d *disk.Disk) { save(d, func(q *point.Point) { q.Epoch = 65535 }) }, api.ErrFull},
		{func(d *disk.Disk) { save(d, func(q *point.Point) { q.Epoch, q.Next = 65535, 0 }) }, api.ErrForm},
		{func(d *disk.Disk) { d.Write(base.Where(3, 600), make([]byte, 64)) }, api.ErrForm},
		{func(d *disk.Disk) { copyTo(d, base.Where(2, 600), base.Where(3, 600)) }, api.ErrForm},
		{func(d *disk.Disk) { d.Write(base.Where(3, -6), make([]byte, 64)) }, api.ErrForm},
		{func(d *disk.Disk) { d.Write(base.Where(1, 0), bytes.Repeat([]byte{1}, 64)) }, api.ErrForm},
		{func(d *disk.Disk) { d.Write(base.Where(3, 0), make([]byte, 64)) }, api.OK},
	} {
		d := base.Disk().Crash(nil, -1, 0)
		c.change(d)
		f, e := Mount(d)
		if e != c.e || (f == nil) != (e != api.OK) {
			t.Errorf("P18.1: Mount %d: %d, want %d", i, e, c.e)
		}
	}
	one, _ := disk.New(1)
	if f, e := Mount(one); f != nil || e != api.ErrSum {
		t.Errorf("P18.1: a disk of one block: %d", e)
	}
	b, _ := geom.Encode(base.Super())
	one.Write(0, b)
	if f, e := Mount(one); f != nil || e != api.ErrForm {
		t.Errorf("P18.1: a disk of one block: %d", e)
	}
}

// P18.1: batches whose inodes aren't what they should be.
func TestWrongBatches(t *testing.T) {
	base := made(t, 300, 16, 20)
	base.Make(api.KFile)
	base.Make(api.KFile)
	base.Write(3, 0, []byte("x"))
	base.Checkpoint()
	p, _ := point.Load(base.Disk())
	for i, c := range []struct {
		n    api.Inode
		told int
		ok   bool
	}{
		{api.Inode{Ino: 3, Kind: 1, Links: 4}, 3, true},
		{api.Inode{Ino: 21, Kind: 1}, 21, false},
		{api.Inode{Ino: 20, Kind: 1, Version: 6}, 20, true},
		{api.Inode{Ino: 1, Kind: 2}, 1, true}, // of Ifile nothing is taken
		{api.Inode{Ino: 3, Kind: 0, Version: 1}, 3, true},
		{api.Inode{Ino: 2, Kind: 0, Version: 1}, 2, false},
		{api.Inode{Ino: 2, Kind: 1, Version: 0}, 2, false},
		{api.Inode{Ino: 3, Kind: 1, Size: 10, Ptr: [9]uint32{2}}, 3, false},
		{api.Inode{Ino: 3, Kind: 1, Size: 10, Ptr: [9]uint32{292}}, 3, false},
		{api.Inode{Ino: 3, Kind: 1, Size: 64, Ptr: [9]uint32{200, 201}}, 3, false},
		{api.Inode{Ino: 3, Kind: 1, Size: 128, Ptr: [9]uint32{200, 201}}, 3, true},
		{api.Inode{Ino: 3, Kind: 1, Size: 128, Ptr: [9]uint32{200, 200}}, 3, false},
		{api.Inode{Ino: 3, Kind: 1, Size: 64, Ptr: [9]uint32{uint32(base.Where(1, 0))}}, 3, false},
		{api.Inode{Ino: 3, Kind: 1, Size: 64, Ptr: [9]uint32{uint32(base.Where(4, 600))}}, 3, false},
		{api.Inode{Ino: 3, Kind: 1, Size: 64 * 22, Ptr: [9]uint32{6: 200}}, 3, false},
		{api.Inode{Ino: 3, Kind: 1, Size: 10, Ptr: [9]uint32{uint32(base.Where(3, 0))}}, 3, true},
		{api.Inode{Ino: 3, Kind: 1, Size: 0, Ptr: [9]uint32{uint32(base.Where(3, 0))}}, 3, false},
		{api.Inode{Ino: 3, Kind: 1, Links: 4}, 4, false},
		{api.Inode{Ino: 4, Kind: 0, Version: 1}, 3, false},
		{api.Inode{Ino: 4, Kind: 1, Links: 4}, 3, false},
		{api.Inode{Ino: 3, Kind: 1, Links: 4}, 1, true},
	} {
		d := base.Disk().Crash(nil, -1, 0)
		b, e := encode(c.n)
		if e != api.OK {
			t.Fatal(e)
		}
		part := api.Part{Epoch: p.Epoch, Count: p.Count, Parts: 1, Next: 3 + 16*14, Inos: []int{c.told}}
		if e := seg.Write(d, p.Next, part, [][]byte{b}); e != api.OK {
			t.Fatal(e)
		}
		f, e := Mount(d)
		if (e == api.OK) != c.ok || !c.ok && e != api.ErrForm {
			t.Errorf("P18.1: batch %d: %d", i, e)
			continue
		}
		if c.ok {
			sound(t, f)
		}
	}
}

// P18.1: of a batch that tells Ifile and others, the others are taken; what is no inode's block isn't.
func TestMixedBatches(t *testing.T) {
	base := made(t, 300, 16, 20)
	base.Make(api.KFile)
	base.Checkpoint()
	p, _ := point.Load(base.Disk())
	for i, c := range []struct {
		second []byte
		ok     bool
	}{{own(t, api.Inode{Ino: 3, Kind: 1, Links: 7}), true}, {make([]byte, 64), false}, {own(t, api.Inode{Ino: 4, Kind: 1}), false}} {
		d := base.Disk().Crash(nil, -1, 0)
		part := api.Part{Epoch: p.Epoch, Count: p.Count, Parts: 1, Next: 3 + 16*14, Inos: []int{1, 3}}
		if e := seg.Write(d, p.Next, part, [][]byte{make([]byte, 64), c.second}); e != api.OK {
			t.Fatal(e)
		}
		f, e := Mount(d)
		if (e == api.OK) != c.ok || !c.ok && e != api.ErrForm {
			t.Errorf("P18.1: batch %d: %d", i, e)
		}
		if c.ok {
			if n, _ := f.Stat(3); n.Links != 7 {
				t.Errorf("P18.1: %v", n)
			}
		}
	}
}

func own(t *testing.T, n api.Inode) []byte {
	t.Helper()
	b, e := encode(n)
	if e != api.OK {
		t.Fatal(e)
	}
	return b
}

// P18.1: a map that tells another Version, another inode, or one that isn't there.
func TestWrongMaps(t *testing.T) {
	base := made(t, 300, 16, 20)
	base.Make(api.KFile)
	base.Make(api.KFile)
	base.Remove(4)
	base.Checkpoint()
	none := 0
	for a := 3; a < 299; a++ {
		b, _ := base.Disk().Read(a)
		if n, e := decode(b); e == api.OK && n.Ino == 4 && n.Kind == api.KNone {
			none = a
		}
	}
	for i, c := range []struct {
		change func(l *[8]entry.MapEntry)
		ok     bool
	}{
		{func(l *[8]entry.MapEntry) {}, true},
		{func(l *[8]entry.MapEntry) { l[2].Version = 1 }, false},
		{func(l *[8]entry.MapEntry) { l[2].Addr = l[1].Addr }, false},
		{func(l *[8]entry.MapEntry) { l[2].Addr++ }, false},
		{func(l *[8]entry.MapEntry) { l[2].Addr = 2 }, false},
		{func(l *[8]entry.MapEntry) { l[2].Addr = 0 }, true},
		{func(l *[8]entry.MapEntry) { l[1].Addr = 0 }, false},
		{func(l *[8]entry.MapEntry) { l[0].Addr = base.Where(1, 600) }, false},
		{func(l *[8]entry.MapEntry) { l[3] = entry.MapEntry{Addr: none, Version: 1} }, false},
		{func(l *[8]entry.MapEntry) { l[4].Version = 65535 }, true},
	} {
		d := base.Disk().Crash(nil, -1, 0)
		b, _ := d.Read(base.Where(1, 0))
		l, e := entry.ReadMap(b)
		if e != api.OK || none == 0 {
			t.Fatal(e)
		}
		c.change(&l)
		b, _ = entry.MapBlock(l)
		d.Write(base.Where(1, 0), b)
		f, e := Mount(d)
		if (e == api.OK) != c.ok || !c.ok && e != api.ErrForm {
			t.Errorf("P18.1: map %d: %d", i, e)
		}
		if c.ok {
			sound(t, f)
		}
	}
}

// P18.1: what was written behind the point isn't written over ahead of a new one, even if nothing of it stands any more.
func TestBatchesBehindTheNext(t *testing.T) {
	base := made(t, 300, 16, 20)
	base.Make(api.KFile)
	base.Checkpoint()
	p, _ := point.Load(base.Disk())
	// The last of three batches puts zeros where the second one's summary may stand: then that is none.
	for place, ok := range map[int]bool{10: false, 6: false, 5: true, 4: true} {
		d := base.Disk().Crash(nil, -1, 0)
		first := 3 + 16*9
		for i, at := range [][2]int{{p.Next, first + place}, {first + place, first}, {first, first + 4}} {
			part := api.Part{Epoch: p.Epoch, Count: p.Count + i, Parts: 1, Next: at[1], Inos: []int{3}}
			if e := seg.Write(d, at[0], part, [][]byte{own(t, api.Inode{Ino: 3, Kind: 1, Links: i})}); e != api.OK {
				t.Fatal(e)
			}
		}
		if f, e := Mount(d); (e == api.OK) != ok || (f != nil) != ok || !ok && e != api.ErrForm {
			t.Errorf("P18.1: a batch at place %d: %d", place, e)
		}
	}
}

// P18.4
func TestAnyDisk(t *testing.T) {
	t.Parallel()
	r := rand.New(rand.NewSource(9))
	mounted := 0
	for range 1500 {
		s := geom.Super{Blocks: 64 + r.Intn(100), SegBlocks: 8 + r.Intn(2), Inodes: 4 + r.Intn(9)}
		if s.Check() != api.OK {
			continue
		}
		f, m := made(t, s.Blocks, s.SegBlocks, s.Inodes), newModel(s.Inodes)
		for range r.Intn(30) {
			change(t, r, f, m)
			if r.Intn(6) == 0 {
				written(r, f)
			}
		}
		d := f.Disk()
		spoil(r, d)
		g, e := Mount(d)
		if e != api.OK {
			if g != nil || e != api.ErrForm && e != api.ErrSum && e != api.ErrFull {
				t.Fatalf("P18.4: Mount: %d", e)
			}
			continue
		}
		mounted++
		sound(t, g)
		m = seen(t, g)
		h := opened(t, d)
		same(t, h, m)
		sound(t, h)
		again := m.copied()
		again.loose = true
		for range 10 {
			change(t, r, h, again)
		}
		same(t, h, again)
		if e := h.Flush(); e != api.OK {
			t.Fatalf("P18.4: Flush: %d", e)
		}
		h = opened(t, d.Crash(nil, -1, 0))
		same(t, h, again)
		sound(t, h)
	}
	if mounted < 100 {
		t.Errorf("P18.4: only %d disks were mounted", mounted)
	}
}

// spoil changes some blocks by chance, some so that their sums hold.
func spoil(r *rand.Rand, d *disk.Disk) {
	for range 1 + r.Intn(3) {
		i := r.Intn(d.Size())
		b, _ := d.Read(i)
		switch r.Intn(4) {
		case 0:
			b[r.Intn(64)] = byte(r.Intn(256))
		case 1:
			b, _ = d.Read(r.Intn(d.Size()))
		case 2:
			if n, e := decode(b); e == api.OK {
				n.Ptr[r.Intn(9)] = uint32(r.Intn(d.Size()))
				n.Size = r.Intn(3000)
				b, _ = encode(n)
			}
		case 3:
			if p, ok := point.Load(d); ok {
				point.Wipe(d)
				p.Next = r.Intn(d.Size())
				point.Save(d, p)
				continue
			}
		}
		d.Write(i, b)
	}
	d.Barrier()
}

// P18.5
func TestNothingIsKeptOrShared(t *testing.T) {
	f := made(t, 300, 16, 20)
	f.Make(api.KFile)
	room := append([]byte("abc"), 7, 7)
	f.Write(3, 0, room[:3])
	room[0] = 'x'
	b, _ := f.Read(3, 0, 9)
	b[1] = 'x'
	_ = append(b[:0], 9, 9, 9, 9)
	if c, _ := f.Read(3, 0, 9); string(c) != "abc" || room[3] != 7 {
		t.Errorf("P18.5: %q", c)
	}
	f.Inodes()[0] = 9
	if !slices.Equal(f.Inodes(), []int{2, 3}) {
		t.Error("P18.5: answers share")
	}
	f.Flush()
	c, _ := f.Read(3, 0, 9)
	c[0] = 'y'
	if c, _ := f.Read(3, 0, 9); string(c) != "abc" {
		t.Errorf("P18.5: %q", c)
	}
}
