package fs_test

import (
	"bytes"
	"math/rand"
	"testing"

	"marl/api"
	"marl/disk"
	. "marl/fs"
	"marl/geom"
	"marl/inode"
)

func encode(n api.Inode) ([]byte, api.Errno) { return inode.Encode(n) }
func decode(b []byte) (api.Inode, api.Errno) { return inode.Decode(b) }

// filled answers a file system whose clean segments have at least so many blocks together, but as few as may be.
func filled(t *testing.T, r *rand.Rand, s geom.Super, blocks int) *FS {
	t.Helper()
	d, _ := disk.New(s.Blocks)
	f, e := Mkfs(d, s)
	if e != api.OK {
		t.Fatal(e)
	}
	// Some files first, so that what is changed stands far from each other.
	for range min(s.Inodes-2, 80) {
		ino, e := f.Make(api.KFile)
		if e != api.OK {
			t.Fatalf("P18.1: Make: %d", e)
		}
		if e := f.Flush(); e != api.OK {
			t.Fatalf("P18.1: Flush: %d", e)
		}
		f.Write(ino, 64*r.Intn(600), []byte{1})
		if f.Flush(); r.Intn(9) == 0 {
			f.Checkpoint()
		}
	}
	for ino := 3; f.Clean()*s.SegBlocks >= blocks; ino = 3 + (ino-2)%(s.Inodes-2) {
		if f.Write(ino, 64*r.Intn(500), make([]byte, 64*r.Intn(40))) != api.OK || f.Flush() != api.OK {
			break
		}
		if (f.Clean()-1)*s.SegBlocks < blocks {
			break
		}
	}
	if e := f.Flush(); e != api.OK {
		t.Fatalf("P18.1: Flush: %d", e)
	}
	return f
}

// P18.1: what has room at least.
func TestRoom(t *testing.T) {
	t.Parallel()
	for seed := range 40 {
		r := rand.New(rand.NewSource(int64(seed)))
		s := geom.Super{Blocks: 4096, SegBlocks: 8 + r.Intn(57), Inodes: []int{10, 50, 200}[r.Intn(3)]}
		if seed < 4 {
			s.SegBlocks = 8 + seed%2*56
		}
		small := filled(t, r, s, 400)
		if small.Clean()*s.SegBlocks >= 400 {
			for range 8 {
				ino := 3 + r.Intn(2)
				if e := small.Write(ino, 64*r.Intn(600), []byte{2}); e != api.OK {
					t.Fatalf("P18.1: %v: %d clean: %d", s, small.Clean(), e)
				}
			}
			lasts(t, small)
		}
		one := filled(t, r, s, 600)
		if one.Clean()*s.SegBlocks >= 600 {
			if e := one.Write(3, 38400-4097-r.Intn(20000), make([]byte, 4096)); e != api.OK {
				t.Fatalf("P18.1: %v: %d clean: %d", s, one.Clean(), e)
			}
			lasts(t, one)
		}
		many := filled(t, r, s, 1600)
		if many.Clean()*s.SegBlocks >= 1600 {
			if e := many.Admit(8, 2); e != api.OK {
				t.Fatalf("P18.1: Admit: %d", e)
			}
			inodes := min(40, s.Inodes-3)
			for k := range 80 {
				if e := many.Write(3+k%inodes, 64*r.Intn(600), []byte{2}); e != api.OK {
					t.Fatalf("P18.1: %v: %d clean: block %d: %d", s, many.Clean(), k, e)
				}
			}
			lasts(t, many)
		}
	}
}

// lasts tells that what was changed comes to the disk, and is opened.
func lasts(t *testing.T, f *FS) {
	t.Helper()
	m := seen(t, f)
	if e := f.Flush(); e != api.OK {
		t.Fatalf("P18.1: Flush: %d", e)
	}
	g := opened(t, f.Disk().Crash(nil, -1, 0))
	same(t, g, m)
	if e := f.Checkpoint(); e != api.OK {
		t.Fatalf("P18.1: Checkpoint: %d", e)
	}
	same(t, f, m)
	sound(t, f)
}

// P18.1: nothing has room always, and so has what a full file system has changed.
func TestFullFileSystem(t *testing.T) {
	for _, size := range []int{8, 16, 40} {
		f := made(t, 64+size*6, size, 20)
		f.Make(api.KFile)
		for at := 0; f.Write(3, at, make([]byte, 64)) == api.OK; at += 64 {
			if e := f.Checkpoint(); e != api.OK {
				t.Fatalf("P18.1: Checkpoint: %d", e)
			}
		}
		m := seen(t, f)
		if f.Admit(0, 0) != api.OK || f.Admit(80, 80) != api.ErrFull || f.Write(3, 0, nil) != api.OK {
			t.Errorf("P18.1: a full one: Admit %d, %d", f.Admit(0, 0), f.Admit(80, 80))
		}
		if ino, e := f.Make(api.KFile); e == api.ErrFull && ino != 0 {
			t.Errorf("P18.1: %d beside an error", ino)
		} else if e == api.OK {
			f.Remove(ino)
		}
		same(t, f, m)
		lasts(t, f)
	}
}

// P18.1: what is admitted has room, however little there is.
func TestAdmitTightly(t *testing.T) {
	t.Parallel()
	for _, size := range []int{8, 9, 12, 16, 20} {
		for seed := range 8 {
			r := rand.New(rand.NewSource(int64(seed)))
			f := made(t, 3+size*(40+r.Intn(9)), size, 30)
			for range 20 {
				f.Make(api.KFile)
			}
			f.Checkpoint()
			for k := 0; f.Admit(1, 1) == api.OK; k++ {
				tightest(t, r, f, k)
				if e := f.Flush(); e != api.OK {
					t.Fatalf("P18.1: Flush: %d", e)
				}
			}
			lasts(t, f)
		}
	}
}

// tightest writes as many blocks as are admitted: up to eight far from each other, or more in a row.
func tightest(t *testing.T, r *rand.Rand, f *FS, k int) {
	t.Helper()
	row, far := 0, 1
	for b := 1; b <= 64; b++ {
		if f.Admit(b, 1) == api.OK {
			row = b
		}
		if b <= 8 && f.Admit(b, b) == api.OK {
			far = b
		}
	}
	if row > 8 && k%3 == 0 {
		f.Admit(row, 1)
		if e := f.Write(3+k%20, 64*r.Intn(500), make([]byte, 64*row)); e != api.OK {
			t.Fatalf("P18.1: %d blocks in a row were admitted, %d clean: %d", row, f.Clean(), e)
		}
		return
	}
	f.Admit(far, far)
	for i := range far {
		if e := f.Write(3+(k+i)%20, 64*(280+16*((k+i)%19)), []byte{1}); e != api.OK {
			t.Fatalf("P18.1: %d blocks were admitted, %d clean: %d", far, f.Clean(), e)
		}
	}
}

// P18.1: whatever is called till nothing has room, a flush, a checkpoint and an opening have it.
func TestTillNothingHasRoom(t *testing.T) {
	t.Parallel()
	const files = 60
	for _, size := range []int{8, 9, 16, 18, 33, 64} {
		for what := range 6 {
			for few := 3; few < 9; few++ {
				f := made(t, 3+size*(20+1500/size), size, 80)
				for k := range files {
					f.Make(api.KFile)
					f.Write(3+k, 64*(k%3)*11, bytes.Repeat([]byte{1}, 70))
					f.Flush()
				}
				f.Checkpoint()
				for at := 0; f.Clean() > few && at < 38400-64*4; at += 64 * 4 {
					if f.Write(3+files/2, at, make([]byte, 64*4)) != api.OK || f.Flush() != api.OK {
						break
					}
				}
				refused := api.OK
				for k := 0; k < 2*files && refused == api.OK; k++ {
					refused = some(f, what, 3+k%files, k)
				}
				if refused != api.ErrFull && refused != api.OK && !(what == 5 && refused == api.ErrNone) {
					t.Fatalf("P18.1: call %d: %d", what, refused)
				}
				lasts(t, f)
			}
		}
	}
}

// some does one call of a kind.
func some(f *FS, what, ino, k int) api.Errno {
	n, _ := f.Stat(ino)
	switch what {
	case 0:
		return f.SetLinks(ino, 50+k%50)
	case 1:
		return f.Truncate(ino, max(0, n.Size-3))
	case 2:
		return f.Write(ino, n.Size-1, []byte{2})
	case 3:
		_, e := f.Make(api.KDir)
		if e == api.ErrFiles {
			return f.Write(ino, 64*k, []byte{1})
		}
		return e
	case 4:
		if e := f.Rewrite(ino, (n.Size-1)/64); e != api.OK {
			return e
		}
		return f.Rewrite(ino, 600)
	}
	if e := f.Rewrite(api.Ifile, k%8); e != api.OK {
		return e
	}
	return f.Remove(ino)
}

// P18.1: where nothing has room, a Rewrite is refused, too.
func TestRewriteWithoutRoom(t *testing.T) {
	f := made(t, 300, 16, 20)
	f.Make(api.KFile)
	for at := 0; f.Write(3, at, make([]byte, 64*20)) == api.OK; at += 64 * 20 {
		f.Checkpoint()
	}
	refused := 0
	for lbn := range 600 {
		if f.Where(3, lbn) == 0 {
			continue
		}
		if e := f.Rewrite(3, lbn); e == api.ErrFull {
			refused++
		} else if e != api.OK {
			t.Fatalf("P18.1: Rewrite: %d", e)
		}
	}
	if refused == 0 {
		t.Error("P18.1: nothing was refused")
	}
	lasts(t, f)
}

// P18.1: what is admitted has room; a call that is refused changes nothing; and what a flush, a checkpoint and an opening need, they have.
func TestAdmit(t *testing.T) {
	t.Parallel()
	refused := 0
	for seed := range 120 {
		r := rand.New(rand.NewSource(int64(seed)))
		s := someGeometry(r)
		f, m := made(t, s.Blocks, s.SegBlocks, s.Inodes), newModel(s.Inodes)
		for range 60 {
			for range r.Intn(5) {
				change(t, r, f, m)
			}
			steps := f.Disk().Steps()
			blocks, inodes := r.Intn(81), 1+r.Intn(8)
			if r.Intn(2) == 0 {
				blocks = r.Intn(9)
			}
			switch e := f.Admit(blocks, inodes); e {
			case api.OK:
				admitted(t, r, f, m, blocks, inodes)
			case api.ErrFull:
				refused++
				same(t, f, m)
			default:
				t.Fatalf("P18.1: Admit: %d", e)
			}
			if f.Disk().Steps() != steps {
				t.Fatal("P18.1: something was flushed")
			}
			if e := written(r, f); e != api.OK {
				t.Fatalf("P18.1: %v: %d", s, e)
			}
			if r.Intn(10) == 0 {
				f = opened(t, f.Disk().Crash(nil, -1, 0))
			}
		}
		same(t, f, m)
		sound(t, f)
	}
	if refused == 0 {
		t.Error("nothing was refused")
	}
}

// admitted does what comes to so many blocks and inodes.
func admitted(t *testing.T, r *rand.Rand, f *FS, m *model, blocks, inodes int) {
	t.Helper()
	if blocks > 8 {
		n := max(1, min(blocks-1, 64))
		ino := 2 + r.Intn(m.n-1)
		x, ok := m.things[ino]
		at := r.Intn(38400 - 64*n)
		if !ok {
			return
		}
		data := make([]byte, 64*n)
		r.Read(data)
		if e := f.Write(ino, at, data); e != api.OK {
			t.Fatalf("P18.1: what was admitted is refused: %d", e)
		}
		b := make([]byte, max(len(x.data), at+len(data)))
		copy(b, x.data)
		copy(b[at:], data)
		x.data = b
		m.things[ino] = x
		return
	}
	for inodes > 0 {
		inodes--
		ino := 2 + r.Intn(m.n-1)
		x, ok := m.things[ino]
		switch k := r.Intn(4); {
		case k == 0 && m.least() != 0:
			ino = m.least()
			i, e := f.Make(api.KFile)
			if e != api.OK || i != ino {
				t.Fatalf("P18.1: what was admitted is refused: Make: %d", e)
			}
			x = thing{version: m.next[ino], kind: api.KFile, links: 1}
		case k == 1 && ok && ino != 2:
			if e := f.Remove(ino); e != api.OK {
				t.Fatalf("P18.1: what was admitted is refused: Remove: %d", e)
			}
			m.next[ino] = x.version + 1
			delete(m.things, ino)
			continue
		case k == 2 && ok && blocks > 0:
			blocks--
			size := r.Intn(len(x.data)*2 + 10)
			size = min(size, 38400)
			if e := f.Truncate(ino, size); e != api.OK {
				t.Fatalf("P18.1: what was admitted is refused: Truncate: %d", e)
			}
			b := make([]byte, size)
			copy(b, x.data)
			x.data = b
		case k == 3 && ok && blocks > 0:
			blocks--
			at := r.Intn(38399)
			if e := f.Write(ino, at, []byte{9}); e != api.OK {
				t.Fatalf("P18.1: what was admitted is refused: Write: %d", e)
			}
			b := make([]byte, max(len(x.data), at+1))
			copy(b, x.data)
			b[at] = 9
			x.data = b
		default:
			continue
		}
		m.things[ino] = x
	}
}
