package fs

import (
	"marl/api"
	"marl/disk"
	"marl/file"
	"marl/geom"
	"marl/imap"
	"marl/inode"
	"marl/point"
	"marl/seg"
	"marl/summary"
)

// opening is a file system on its way.
type opening struct {
	*FS
	found []seg.Found // what was written behind the point
	taken map[int]int // how many blocks stand at an address
}

// Mount opens the file system on a disk.
func Mount(d *disk.Disk) (*FS, api.Errno) {
	b, e := d.Read(0)
	if e != api.OK {
		return nil, e
	}
	s, e := geom.Decode(b)
	if e != api.OK {
		return nil, e
	}
	p, ok := point.Load(d)
	if !ok || d.Size() < s.Blocks {
		return nil, api.ErrForm
	}
	f, e := blank(d, s)
	if e != api.OK {
		return nil, e
	}
	o := &opening{FS: f, taken: map[int]int{}}
	if !o.read(p) {
		return nil, api.ErrForm
	}
	if p.Epoch == maxNumber || !f.canOpen() {
		return nil, api.ErrFull
	}
	// Another Epoch, so that what was written of an opening that the power ended is told from what comes now.
	f.epoch, f.count, f.unsaved = p.Epoch+1, 0, true
	if e := f.met(seg.Clear(d, f.next)); e != api.OK {
		return nil, e
	}
	if e := f.checkpoint(); e != api.OK {
		return nil, e
	}
	return f, api.OK
}

// canOpen tells whether the checkpoint of an opening has room.
func (f *FS) canOpen() bool {
	return len(f.imap.Dirty()) == 0 || f.takes(f.mapItems(0)) <= f.Clean()
}

// read takes in what is told from a point on; false, if something isn't what it should be.
func (o *opening) read(p point.Point) bool {
	if !o.readMap(p.Ifile) {
		return false
	}
	batches, next, _ := seg.Scan(o.d, o.super, p.Next, p.Epoch, p.Count)
	for _, b := range batches {
		for _, x := range b {
			if !o.apply(x) {
				return false
			}
			o.found = append(o.found, x)
		}
	}
	o.next = next
	return o.readNodes() && o.takeStands() && o.takeSegments()
}

// inSegment tells whether an address is in a segment.
func (o *opening) inSegment(addr int) bool {
	_, _, e := o.super.Of(addr)
	return e == api.OK
}

// block answers the block at an address in a segment.
func (o *opening) block(addr int) ([]byte, bool) {
	if !o.inSegment(addr) {
		return nil, false
	}
	b, e := o.d.Read(addr)
	return b, e == api.OK
}

// readNode answers the inode that stands at an address.
func (o *opening) readNode(ino, addr int) (*node, bool) {
	b, ok := o.block(addr)
	if !ok {
		return nil, false
	}
	i, e := inode.Decode(b)
	if e != api.OK || i.Ino != ino {
		return nil, false
	}
	n := newNode(i)
	n.at = addr
	n.blocks, e = file.Load(i.Ptr, o.block)
	return n, e == api.OK && o.ends(n)
}

// ends tells whether nothing stands behind a node's end: no block, and no byte but zeros.
func (o *opening) ends(n *node) bool {
	blocks := inode.Blocks(n.Size)
	for _, p := range n.blocks.Places() {
		if p.N >= blocks || !o.inSegment(p.Addr) {
			return false
		}
	}
	rest := n.Size % api.Block
	if rest == 0 || !n.blocks.Has(blocks-1) {
		return true
	}
	b, ok := o.block(n.blocks.Get(blocks - 1))
	if !ok {
		return false
	}
	for _, x := range b[rest:] {
		if x != 0 {
			return false
		}
	}
	return true
}

// readMap takes in the inode map's file.
func (o *opening) readMap(addr int) bool {
	n, ok := o.readNode(api.Ifile, addr)
	if !ok || n.Inode != ifileOf(o.super) {
		return false
	}
	blocks := make([][]byte, mapBlocks(o.super))
	for k := range blocks {
		blocks[k] = make([]byte, api.Block)
		if at := n.blocks.Get(k); at != 0 {
			if blocks[k], ok = o.block(at); !ok {
				return false
			}
		}
	}
	m, e := imap.Load(o.super.Inodes, blocks)
	if e != api.OK {
		return false
	}
	o.imap = m
	o.nodes[api.Ifile] = n
	return true
}

// apply takes in what a partial segment's inodes tell.
func (o *opening) apply(x seg.Found) bool {
	first := len(x.Blocks) - len(x.Part.Inos)
	for i, ino := range x.Part.Inos {
		if ino == api.Ifile {
			continue
		}
		n, e := inode.Decode(x.Blocks[first+i])
		if e != api.OK || n.Ino != ino {
			return false
		}
		addr := x.Addr + api.Summary + first + i
		if n.Kind == api.KNone {
			addr = 0
		}
		if o.imap.Force(ino, n.Version, addr) != api.OK {
			return false
		}
	}
	return true
}

// readNodes takes in the inodes that the map tells.
func (o *opening) readNodes() bool {
	for _, ino := range o.imap.Busy() {
		addr, version, _ := o.imap.Get(ino)
		n, ok := o.readNode(ino, addr)
		if !ok || n.Version != version || n.Kind == api.KNone {
			return false
		}
		o.nodes[ino] = n
	}
	root, ok := o.nodes[api.Root]
	return ok && root.Kind == api.KDir
}

// takeStands tells what stands where; false, if two blocks stand in one place.
func (o *opening) takeStands() bool {
	for _, n := range o.nodes {
		addrs := n.stood()
		o.live(addrs, 1)
		for _, addr := range addrs {
			if o.taken[addr]++; o.taken[addr] > 1 {
				return false
			}
		}
	}
	return true
}

// takeSegments tells which segments are in use; false, if the next batch would come over what stands, or was written behind the point.
func (o *opening) takeSegments() bool {
	active, place, e := o.super.Of(o.next)
	if e != api.OK || o.super.SegBlocks-place < minLeft {
		return false
	}
	for k := place; k < o.super.SegBlocks; k++ {
		if o.taken[o.next-place+k] > 0 {
			return false
		}
	}
	for _, x := range o.found {
		s, at, _ := o.super.Of(x.Addr)
		if s == active && at+summary.Blocks(x.Part) > place {
			return false
		}
		o.use.Use(s)
	}
	for s := range o.super.Segs() {
		if i, _ := o.use.Get(s); i.Live > 0 {
			o.use.Use(s)
		}
	}
	return o.use.Seize(active) == api.OK
}
