package fs

import (
	"marl/api"
	"marl/file"
	"marl/inode"
	"marl/pack"
	"marl/seg"
	"marl/usage"
)

// placed is a piece at an address; the next one's is next.
type placed struct {
	pack.Piece
	addr, next int
}

// batch is what comes to the disk at once.
type batch struct {
	pieces []placed
	taken  int               // how many clean segments it begins
	next   int               // where the next batch comes
	maps   map[int]*file.Map // where the blocks of each inode stand then
	at     map[int]int       // where each inode stands then
	stand  []int             // addresses at which something stands then
	gone   []int             // addresses at which nothing stands then
}

// takeable answers the clean segments in the order in which they are taken.
func (f *FS) takeable() []int {
	active, _, _ := f.super.Of(f.next)
	var l []int
	n := f.super.Segs()
	for k := range n {
		seg := (active + 1 + k) % n
		if i, e := f.use.Get(seg); e == api.OK && i.State == usage.Clean {
			l = append(l, seg)
		}
	}
	return l
}

// plan answers the batch in which what is dirty of these inodes comes to the disk, with the inodes; false, if it has no room.
func (f *FS) plan(inos []int) (*batch, bool) {
	left, e := f.super.Left(f.next)
	if e != api.OK {
		return nil, false
	}
	var files []api.Finfo
	for _, ino := range inos {
		if n, ok := f.nodes[ino]; ok && len(n.dirty) > 0 {
			files = append(files, api.Finfo{Ino: ino, Version: n.Version, Lbns: n.lbns()})
		}
	}
	pieces, e := pack.Plan(files, inos, left, f.super.SegBlocks)
	if e != api.OK {
		return nil, false
	}
	b := &batch{maps: map[int]*file.Map{}, at: map[int]int{}}
	if !f.place(b, pieces, left) {
		return nil, false
	}
	for _, p := range b.pieces {
		f.settle(b, p)
	}
	return b, true
}

// place tells where each piece comes.
func (f *FS) place(b *batch, pieces []pack.Piece, left int) bool {
	clean := f.takeable()
	addr := f.next
	begin := func() bool {
		if b.taken == len(clean) {
			return false
		}
		addr, _ = f.super.First(clean[b.taken])
		left = f.super.SegBlocks
		b.taken++
		return true
	}
	for _, p := range pieces {
		if p.New && !begin() {
			return false
		}
		b.pieces = append(b.pieces, placed{Piece: p, addr: addr})
		addr += pack.Blocks(p)
		left -= pack.Blocks(p)
	}
	if left < minLeft && !begin() {
		return false
	}
	b.next = addr
	for i := range b.pieces {
		b.pieces[i].next = addr
		if i+1 < len(b.pieces) {
			b.pieces[i].next = b.pieces[i+1].addr
		}
	}
	return true
}

// settle tells where the items of a piece stand then.
func (f *FS) settle(b *batch, p placed) {
	addr := p.addr + api.Summary
	for _, x := range p.Files {
		m, ok := b.maps[x.Ino]
		if !ok {
			m = f.nodes[x.Ino].copied()
			b.maps[x.Ino] = m
		}
		for _, lbn := range x.Lbns {
			gone, _ := m.Set(lbn, addr)
			b.gone = append(b.gone, gone...)
			b.stand = append(b.stand, addr)
			addr++
		}
	}
	for _, ino := range p.Inos {
		// Nothing stands where it is told that an inode is gone.
		if n, ok := f.nodes[ino]; ok {
			b.at[ino] = addr
			b.stand = append(b.stand, addr)
			if n.at != 0 {
				b.gone = append(b.gone, n.at)
			}
		}
		addr++
	}
}

// blocks answers the bytes of a piece's items.
func (f *FS) blocks(b *batch, p placed) ([][]byte, api.Errno) {
	var l [][]byte
	for _, x := range p.Files {
		for _, lbn := range x.Lbns {
			l = append(l, f.bytes(b, x.Ino, lbn))
		}
	}
	for _, ino := range p.Inos {
		c, e := inode.Encode(f.told(b, ino))
		if e != api.OK {
			return nil, e
		}
		l = append(l, c)
	}
	return l, api.OK
}

// bytes answers the bytes of a file's block.
func (f *FS) bytes(b *batch, ino, lbn int) []byte {
	if lbn < 0 {
		c, _ := b.maps[ino].Block(lbn)
		return c
	}
	if ino == api.Ifile {
		return f.imap.Blocks()[lbn]
	}
	return f.load(f.nodes[ino], lbn)
}

// told answers what is told of an inode, there or not.
func (f *FS) told(b *batch, ino int) api.Inode {
	n, ok := f.nodes[ino]
	if !ok {
		_, version, _ := f.imap.Get(ino)
		return api.Inode{Ino: ino, Version: version, Kind: api.KNone}
	}
	m, ok := b.maps[ino]
	if !ok {
		m = n.blocks
	}
	i := n.Inode
	i.Ptr = m.Root()
	return i
}

// write writes the batch, piece by piece.
func (f *FS) write(b *batch) api.Errno {
	for i, p := range b.pieces {
		blocks, e := f.blocks(b, p)
		if e != api.OK {
			return e
		}
		part := api.Part{Epoch: f.epoch, Count: f.count + i, Index: i, Parts: len(b.pieces), Next: p.next, Files: p.Files, Inos: p.Inos}
		if e := f.met(seg.Write(f.d, p.addr, part, blocks)); e != api.OK {
			return e
		}
	}
	return api.OK
}

// commit tells in memory that the batch is written.
func (f *FS) commit(b *batch) {
	for range b.taken {
		f.use.Take()
	}
	f.live(b.stand, 1)
	f.free(b.gone)
	for ino, m := range b.maps {
		f.settled(f.nodes[ino])
		f.nodes[ino].blocks = m
	}
	for ino, addr := range b.at {
		f.nodes[ino].at = addr
		if ino != api.Ifile {
			f.imap.Set(ino, addr)
		}
	}
	f.next = b.next
	f.count += len(b.pieces)
	f.unsaved = true
}

// flushed writes one batch of these inodes, whole or not at all.
func (f *FS) flushed(inos []int) api.Errno {
	b, ok := f.plan(inos)
	if !ok {
		return api.ErrFull
	}
	if e := f.write(b); e != api.OK {
		return e
	}
	f.commit(b)
	return api.OK
}
