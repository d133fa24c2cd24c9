package vfs

import (
	"marl/api"
	"marl/entry"
)

const (
	perBlock = 4 // entries
	maxSlots = api.MaxFile * perBlock
)

// slot is an entry of a directory, and its place.
type slot struct {
	entry.DirEntry
	at int
}

func (s slot) free() bool { return s.DirEntry == entry.DirEntry{} }

// blockOf answers the bytes of a directory's block; zeros, if it hasn't so many.
func (v *VFS) blockOf(dir, k int) []byte {
	b, e := v.f.Read(dir, k*api.Block, api.Block)
	if e != api.OK || len(b) != api.Block {
		return make([]byte, api.Block)
	}
	return b
}

// blocks answers how many blocks a directory has.
func (v *VFS) blocks(dir int) int {
	n, e := v.f.Stat(dir)
	if e != api.OK {
		return 0
	}
	return n.Size / api.Block
}

// slots answers all entries of a directory, free ones too.
func (v *VFS) slots(dir int) []slot {
	var l []slot
	for k := range v.blocks(dir) {
		// What isn't a block of entries, has none: Mount lets none of these in.
		x, _ := entry.ReadDir(v.blockOf(dir, k))
		for i, e := range x {
			l = append(l, slot{e, k*perBlock + i})
		}
	}
	return l
}

// entries answers the entries of a directory that aren't free.
func (v *VFS) entries(dir int) []slot {
	var l []slot
	for _, s := range v.slots(dir) {
		if !s.free() {
			l = append(l, s)
		}
	}
	return l
}

// lookup answers the entry of a name.
func (v *VFS) lookup(dir int, name string) (slot, bool) {
	for _, s := range v.entries(dir) {
		if s.Name == name {
			return s, true
		}
	}
	return slot{}, false
}

// spare answers a place for one more entry; false, if the directory would be too great.
func (v *VFS) spare(dir int) (int, bool) {
	l := v.slots(dir)
	for _, s := range l {
		if s.free() {
			return s.at, true
		}
	}
	return len(l), len(l) < maxSlots
}

// put lets the entry at a place be this.
func (v *VFS) put(dir, at int, x entry.DirEntry) api.Errno {
	k := at / perBlock
	l, e := entry.ReadDir(v.blockOf(dir, k))
	if e != api.OK {
		return e
	}
	l[at%perBlock] = x
	b, e := entry.DirBlock(l)
	if e != api.OK {
		return e
	}
	return v.f.Write(dir, k*api.Block, b)
}
