package fs

import (
	"marl/api"
	"marl/cache"
	"marl/inode"
)

// load answers the bytes of a data block.
func (f *FS) load(n *node, lbn int) []byte {
	k := cache.Key{Ino: n.Ino, Lbn: lbn}
	if b, ok := f.cache.Get(k); ok {
		return b
	}
	addr := n.blocks.Get(lbn)
	if addr == 0 {
		return make([]byte, api.Block)
	}
	b, e := f.d.Read(addr)
	if e != api.OK {
		return make([]byte, api.Block)
	}
	// It is read again, if there is no room for it.
	f.cache.Put(k, b, false)
	return b
}

// store lets a data block have these bytes. (The cache has room for all that can be changed ahead of a flush.)
func (f *FS) store(n *node, lbn int, b []byte) {
	f.cache.Put(cache.Key{Ino: n.Ino, Lbn: lbn}, b, true)
	n.mark(lbn)
	f.touch(n)
}

// forget lets the data of a node go, from one block on.
func (f *FS) forget(n *node, from int) {
	for lbn := from; lbn < inode.Blocks(n.Size); lbn++ {
		f.cache.Drop(cache.Key{Ino: n.Ino, Lbn: lbn})
	}
}

// touch lets an inode be written anew.
func (f *FS) touch(n *node) {
	if n.Ino == api.Ifile {
		f.remap = true
		return
	}
	f.changed[n.Ino] = struct{}{}
}

// free tells that nothing stands at these addresses any more.
func (f *FS) free(addrs []int) { f.live(addrs, -1) }

// live tells that so much more stands at each of these addresses.
func (f *FS) live(addrs []int, by int) {
	for _, addr := range addrs {
		seg, _, e := f.super.Of(addr)
		if e == api.OK {
			f.use.Add(seg, by)
		}
	}
}

// Read answers at most n bytes of an inode from at on.
func (f *FS) Read(ino, at, n int) ([]byte, api.Errno) {
	x, e := f.there(ino)
	if e != api.OK {
		return nil, e
	}
	if at < 0 || n < 0 || n > api.MaxData {
		return nil, api.ErrRange
	}
	var l []byte
	for end := min(n, x.Size-at) + at; at < end; {
		b := f.load(x, at/api.Block)
		b = b[at%api.Block : min(api.Block, at%api.Block+end-at)]
		l = append(l, b...)
		at += len(b)
	}
	return l, api.OK
}
