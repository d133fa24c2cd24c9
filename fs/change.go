package fs

import (
	"marl/api"
	"marl/inode"
)

// changeable answers an inode that is to be changed.
func (f *FS) changeable(ino int) (*node, api.Errno) {
	if f.dead {
		return nil, api.ErrDead
	}
	return f.there(ino)
}

// Make answers a new inode.
func (f *FS) Make(kind int) (int, api.Errno) {
	switch {
	case f.dead:
		return 0, api.ErrDead
	case kind != api.KFile && kind != api.KDir:
		return 0, api.ErrRange
	case f.imap.Room() == 0:
		return 0, api.ErrFiles
	case !f.room(1, 1):
		return 0, api.ErrFull
	}
	ino, version, e := f.imap.Alloc()
	if e != api.OK {
		return 0, e
	}
	n := newNode(api.Inode{Ino: ino, Version: version, Kind: kind, Links: 1})
	f.nodes[ino] = n
	f.touch(n)
	return ino, api.OK
}

// Remove takes an inode away.
func (f *FS) Remove(ino int) api.Errno {
	n, e := f.changeable(ino)
	if e != api.OK {
		return e
	}
	if ino == api.Root {
		return api.ErrPerm
	}
	if !f.lastRoom(f.cost(n, nil), 1) {
		return api.ErrFull
	}
	f.free(n.stood())
	f.forget(n, 0)
	f.touch(n)
	delete(f.nodes, ino)
	return f.imap.Free(ino)
}

// SetLinks lets an inode have n links.
func (f *FS) SetLinks(ino, n int) api.Errno {
	x, e := f.changeable(ino)
	if e != api.OK {
		return e
	}
	if n < 0 || n > api.MaxLinks {
		return api.ErrRange
	}
	if n == x.Links {
		return api.OK
	}
	if !f.room(f.cost(x, nil), 1) {
		return api.ErrFull
	}
	x.Links = n
	f.touch(x)
	return api.OK
}

// Write lets an inode have these bytes from at on.
func (f *FS) Write(ino, at int, data []byte) api.Errno {
	n, e := f.changeable(ino)
	if e != api.OK {
		return e
	}
	if at < 0 || len(data) > api.MaxData {
		return api.ErrRange
	}
	if at > maxSize-len(data) {
		return api.ErrBig
	}
	if len(data) == 0 {
		return api.OK
	}
	end := at + len(data)
	if !f.room(f.cost(n, between(at, end)), 1) {
		return api.ErrFull
	}
	for at < end {
		b := f.load(n, at/api.Block)
		k := copy(b[at%api.Block:], data)
		f.store(n, at/api.Block, b)
		at += k
		data = data[k:]
	}
	n.Size = max(n.Size, end)
	return api.OK
}

// between answers the blocks that hold the bytes from at on, ahead of end.
func between(at, end int) []int {
	var l []int
	for lbn := at / api.Block; lbn < inode.Blocks(end); lbn++ {
		l = append(l, lbn)
	}
	return l
}

// Truncate lets an inode have size bytes.
func (f *FS) Truncate(ino, size int) api.Errno {
	n, e := f.changeable(ino)
	switch {
	case e != api.OK:
		return e
	case size < 0:
		return api.ErrRange
	case size > maxSize:
		return api.ErrBig
	case size == n.Size:
		return api.OK
	}
	var edge []int
	if last := inode.Blocks(size) - 1; size < n.Size && last >= 0 {
		edge = append(edge, last)
	}
	if !f.room(f.cost(n, edge), 1) {
		return api.ErrFull
	}
	if size < n.Size {
		f.cut(n, size)
	}
	n.Size = size
	f.touch(n)
	return api.OK
}

// cut takes the bytes from size on away.
func (f *FS) cut(n *node, size int) {
	from := inode.Blocks(size)
	// What stands behind the end is zeros always, so that a file that grows again has nothing to write.
	if rest := size % api.Block; rest != 0 && f.holds(n, from-1) {
		b := f.load(n, from-1)
		clear(b[rest:])
		f.store(n, from-1, b)
	}
	gone, _ := n.blocks.Cut(from)
	f.free(gone)
	f.forget(n, from)
	n.trim(from)
}

// holds tells whether a data block is there, on the disk or in memory yet.
func (f *FS) holds(n *node, lbn int) bool {
	_, dirty := n.dirty[lbn]
	return dirty || n.blocks.Has(lbn)
}

// Rewrite lets a block be written anew, as if it were changed.
func (f *FS) Rewrite(ino, lbn int) api.Errno {
	if f.dead {
		return api.ErrDead
	}
	if f.Where(ino, lbn) == 0 {
		return api.ErrNone
	}
	n := f.nodes[ino]
	var lbns []int
	if lbn != ownBlock {
		lbns = append(lbns, lbn)
	}
	if !f.lastRoom(f.cost(n, lbns), 1) {
		return api.ErrFull
	}
	f.touch(n)
	for _, x := range lbns {
		n.mark(x)
	}
	return api.OK
}
