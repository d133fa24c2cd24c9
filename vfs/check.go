package vfs

import (
	"marl/api"
	"marl/entry"
)

// isTree tells whether the inodes make a tree.
func (v *VFS) isTree() bool {
	named := map[int]int{api.Root: 1} // how often an inode is named; the root is without a name
	for dirs := []int{api.Root}; len(dirs) > 0; dirs = dirs[1:] {
		below, ok := v.check(dirs[0], named)
		if !ok {
			return false
		}
		dirs = append(dirs, below...)
	}
	for _, ino := range v.f.Inodes() {
		n, e := v.f.Stat(ino)
		if e != api.OK || named[ino] == 0 || n.Links != named[ino] {
			return false
		}
	}
	return true
}

// check counts what a directory names, and answers the directories among it; false, if something is wrong.
func (v *VFS) check(dir int, named map[int]int) ([]int, bool) {
	n, e := v.f.Stat(dir)
	if e != api.OK || n.Size%api.Block != 0 {
		return nil, false
	}
	for k := range v.blocks(dir) {
		if _, e := entry.ReadDir(v.blockOf(dir, k)); e != api.OK {
			return nil, false
		}
	}
	names := map[string]struct{}{}
	var below []int
	for _, s := range v.entries(dir) {
		if _, twice := names[s.Name]; twice {
			return nil, false
		}
		names[s.Name] = struct{}{}
		x, e := v.f.Stat(s.Ino)
		if e != api.OK {
			return nil, false
		}
		named[s.Ino]++
		if x.Kind != api.KDir {
			continue
		}
		// So the root isn't named, and nothing is gone through again and again.
		if named[s.Ino] > 1 {
			return nil, false
		}
		below = append(below, s.Ino)
	}
	return below, true
}
