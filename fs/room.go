package fs

import (
	"marl/api"
	"marl/geom"
	"marl/index"
	"marl/summary"
)

const (
	// The greatest that Admit takes.
	maxAdmit = 80

	// So many data blocks are admitted wherever they are; more only in one Write.
	scattered = 8

	// A block and those that lead to it are so many at most.
	perBlock = 4

	// Behind this Count a checkpoint begins another Epoch; far enough from the last one for all that can be written ahead of a checkpoint.
	lastCount = 60000

	mapEntries = 8 // of a block of the inode map
)

// worst tells of a segment whose items take the most room: how many of them fill it at least, and in how many pieces at most they do.
func worst(size int) (items, pieces int) {
	lone := api.Finfo{Lbns: []int{0}}
	head := summary.Size(api.Part{})
	each := summary.Size(api.Part{Files: []api.Finfo{lone}}) - head
	full := (api.SumBytes - head) / each
	piece := api.Summary + full
	items, pieces = full*(size/piece), size/piece
	if rest := size % piece; rest >= minLeft {
		items += rest - api.Summary
		pieces++
	}
	return items, pieces
}

// takes answers how many clean segments a batch of so many items takes at most: the last one for what comes behind it. One item comes into the active segment at least; the last segment may end with two blocks that hold no item.
func (f *FS) takes(items int) int {
	if items == 0 {
		return 0
	}
	fill, _ := worst(f.super.SegBlocks)
	const active, lost = 1, minLeft - 1
	return (items-active+lost)/fill + 1
}

// oneBatch tells whether so many items come into one batch.
func (f *FS) oneBatch(items int) bool {
	fill, pieces := worst(f.super.SegBlocks)
	return pieces*(1+(items-1+fill-1)/fill) <= api.MaxParts
}

// pending answers how many items the next flush has.
func (f *FS) pending() int {
	items := 0
	for ino := range f.changed {
		items++
		if n, ok := f.nodes[ino]; ok {
			items += len(n.dirty)
		}
	}
	return items
}

// mapBlocks answers how many blocks the inode map has.
func mapBlocks(s geom.Super) int { return (s.Inodes + mapEntries - 1) / mapEntries }

// mapItems answers how many items a checkpoint's second batch has at most, if so many inodes more are changed.
func (f *FS) mapItems(inodes int) int {
	blocks := map[int]struct{}{}
	for _, k := range f.imap.Dirty() {
		blocks[k] = struct{}{}
	}
	for ino := range f.changed {
		blocks[(ino-1)/mapEntries] = struct{}{}
	}
	for lbn := range f.nodes[api.Ifile].dirty {
		if lbn >= 0 {
			blocks[lbn] = struct{}{}
		}
	}
	all := mapBlocks(f.super)
	metas, _ := index.Metas(0, all)
	return min(all, len(blocks)+inodes) + len(metas) + 1
}

// spared answers how many clean segments are left to calls that may make more room, so that a cleaner can begin where others are refused; fewer, or none, on a disk of few segments.
func (f *FS) spared() int {
	const moved, part = 2, 8
	all := f.mapItems(mapBlocks(f.super))
	return min(moved+f.takes(all), f.super.Segs()/part)
}

// room tells whether so many items and inodes more can be changed.
func (f *FS) room(items, inodes int) bool { return f.roomBut(items, inodes, f.spared()) }

// lastRoom is room, of a call that may take what is spared.
func (f *FS) lastRoom(items, inodes int) bool { return f.roomBut(items, inodes, 0) }

// roomBut is room, if so many clean segments aren't taken. The map's batch is counted twice, since a checkpoint that the power ended is made again by an opening.
func (f *FS) roomBut(items, inodes, spared int) bool {
	if f.epoch == maxNumber && f.count > lastCount {
		return false
	}
	all := f.pending() + items
	return f.oneBatch(all) && f.takes(all)+2*f.takes(f.mapItems(inodes))+spared <= f.Clean()
}

// cost answers how many items more there are, once these blocks of an inode are changed.
func (f *FS) cost(n *node, lbns []int) int {
	items := n.fresh(lbns)
	if _, ok := f.changed[n.Ino]; !ok {
		items++
	}
	return items
}

// Admit tells whether changes of so many data blocks and inodes have room.
func (f *FS) Admit(blocks, inodes int) api.Errno {
	if blocks < 0 || blocks > maxAdmit || inodes < 0 || inodes > maxAdmit {
		return api.ErrRange
	}
	if blocks == 0 && inodes == 0 {
		return api.OK
	}
	items := perBlock * min(blocks, scattered)
	if blocks > 0 {
		items = max(items, oneWrite(blocks))
	}
	if !f.room(items+inodes, inodes) {
		return api.ErrFull
	}
	return api.OK
}

// oneWrite answers how many items so many blocks in a row are at most, with those that lead to them.
func oneWrite(blocks int) int {
	lowest := (blocks-2+api.Per)/api.Per + 1
	// Two of level 2, since one may end within, and one of level 3.
	const higher = 3
	return blocks + lowest + higher
}
