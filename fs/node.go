package fs

import (
	"maps"
	"slices"

	"marl/api"
	"marl/file"
	"marl/index"
)

// node is an inode in memory; its Ptr is told by where its blocks stand.
type node struct {
	api.Inode
	at     int // where its own block stands; 0: nowhere yet
	blocks *file.Map
	dirty  map[int]struct{} // blocks that come to the disk at the next flush, with each all blocks of pointers that lead to it
}

func newNode(n api.Inode) *node {
	n.Ptr = [9]uint32{}
	return &node{Inode: n, blocks: file.New(), dirty: map[int]struct{}{}}
}

// withParents answers a block, and the blocks of pointers that lead to it.
func withParents(lbn int) []int {
	p, _ := index.To(lbn)
	return append(p.Metas, lbn)
}

func (n *node) mark(lbn int) {
	for _, x := range withParents(lbn) {
		n.dirty[x] = struct{}{}
	}
}

// fresh answers how many blocks more are dirty, once these are.
func (n *node) fresh(lbns []int) int {
	more := map[int]struct{}{}
	for _, lbn := range lbns {
		for _, x := range withParents(lbn) {
			if _, ok := n.dirty[x]; !ok {
				more[x] = struct{}{}
			}
		}
	}
	return len(more)
}

// trim forgets what is dirty no more, once the file's data from one on are cut off.
func (n *node) trim(from int) {
	old := n.dirty
	n.dirty = map[int]struct{}{}
	for x := range old {
		switch {
		case x >= 0 && x < from:
			n.mark(x)
		case x < 0 && n.blocks.Has(x):
			n.dirty[x] = struct{}{}
		}
	}
	if from == api.MaxFile {
		return
	}
	// Of these some pointers lead nowhere now.
	for _, x := range withParents(from) {
		if n.blocks.Has(x) {
			n.dirty[x] = struct{}{}
		}
	}
}

// lbns answers the dirty blocks in the order in which they are written: data first, since blocks of pointers tell where these stand.
func (n *node) lbns() []int {
	l := slices.Sorted(maps.Keys(n.dirty))
	data, _ := slices.BinarySearch(l, 0)
	return slices.Concat(l[data:], l[:data])
}

// copied answers the map of where its blocks stand, as one of its own.
func (n *node) copied() *file.Map {
	m := file.New()
	for _, p := range n.blocks.Places() {
		m.Set(p.N, p.Addr)
	}
	return m
}

// stood answers the addresses at which something of the node stands.
func (n *node) stood() []int {
	var l []int
	for _, p := range n.blocks.Places() {
		l = append(l, p.Addr)
	}
	if n.at != 0 {
		l = append(l, n.at)
	}
	return l
}
