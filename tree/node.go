package tree

import (
	"maps"
	"slices"

	"marl/api"
)

// node is a directory or a file.
type node struct {
	ino, kind, links int
	entries          map[string]*node // of a directory
	data             []byte           // of a file
}

func (d *node) isDir() bool { return d.kind == api.KDir }

// directory tells that it is none.
func (d *node) directory() api.Errno {
	if !d.isDir() {
		return api.ErrNotDir
	}
	return api.OK
}

// file tells that it is none.
func (d *node) file() api.Errno {
	if d.isDir() {
		return api.ErrIsDir
	}
	return api.OK
}

// linkable tells that it can't have another name.
func (d *node) linkable() api.Errno {
	if d.isDir() {
		return api.ErrPerm
	}
	return api.OK
}

// empty tells that it is no directory, or has entries.
func (d *node) empty() api.Errno {
	if e := d.directory(); e != api.OK {
		return e
	}
	if len(d.entries) > 0 {
		return api.ErrEmpty
	}
	return api.OK
}

// any finds nothing wrong.
func (d *node) any() api.Errno { return api.OK }

// names answers the names of a directory's entries, rising.
func (d *node) names() []string { return slices.Sorted(maps.Keys(d.entries)) }

// walk tells the paths of all that is below a directory, which has this path itself.
func (d *node) walk(path string, tell func(path string)) {
	for n, c := range d.entries {
		if !c.isDir() {
			tell(path + n)
			continue
		}
		tell(path + n + "/")
		c.walk(path+n+"/", tell)
	}
}

// longest answers how many bytes the longest of the paths has which Walk tells of a node and what is below it, if its own path has size bytes without a / behind.
func (d *node) longest(size int) int {
	if !d.isDir() {
		return size
	}
	most := size + 1
	for n, c := range d.entries {
		most = max(most, c.longest(size+1+len(n)))
	}
	return most
}
