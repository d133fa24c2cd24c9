package vfs

import (
	"marl/api"
	"marl/name"
)

// path is one taken to pieces.
type path struct {
	names []string
	dir   bool // it is of a directory
}

// place is where an entry is, or would be.
type place struct {
	path
	last string
}

func split(text string) (path, api.Errno) {
	names, dir, e := name.Split(text)
	return path{names, dir}, e
}

// parent is split, of the path of an entry.
func parent(text string) (place, api.Errno) {
	_, last, e := name.Parent(text)
	if e != api.OK {
		return place{}, e
	}
	p, e := split(text)
	return place{p, last}, e
}

// ahead answers the names ahead of the last.
func (p place) ahead() []string { return p.names[:len(p.names)-1] }

// size answers how many bytes the path has, told plainly.
func (p path) size() int {
	n := 0
	for _, x := range p.names {
		n += 1 + len(x)
	}
	return n
}

func (v *VFS) isDir(ino int) bool {
	n, e := v.f.Stat(ino)
	return e == api.OK && n.Kind == api.KDir
}

// directory tells that it is none.
func (v *VFS) directory(ino int) api.Errno {
	if !v.isDir(ino) {
		return api.ErrNotDir
	}
	return api.OK
}

// file tells that it is none.
func (v *VFS) file(ino int) api.Errno {
	if v.isDir(ino) {
		return api.ErrIsDir
	}
	return api.OK
}

// linkable tells that it can't have another name.
func (v *VFS) linkable(ino int) api.Errno {
	if v.isDir(ino) {
		return api.ErrPerm
	}
	return api.OK
}

// empty tells that it is no directory, or has entries.
func (v *VFS) empty(ino int) api.Errno {
	if e := v.directory(ino); e != api.OK {
		return e
	}
	if len(v.entries(ino)) > 0 {
		return api.ErrEmpty
	}
	return api.OK
}

// any finds nothing wrong.
func (v *VFS) any(ino int) api.Errno { return api.OK }

// lead answers where names lead.
func (v *VFS) lead(names []string) (int, api.Errno) {
	ino := api.Root
	for _, n := range names {
		if e := v.directory(ino); e != api.OK {
			return 0, e
		}
		s, ok := v.lookup(ino, n)
		if !ok {
			return 0, api.ErrNone
		}
		ino = s.Ino
	}
	return ino, api.OK
}

// find answers where a path leads, and what is wrong with that.
func (v *VFS) find(p path, wrong func(ino int) api.Errno) (int, api.Errno) {
	ino, e := v.lead(p.names)
	if e == api.OK && p.dir {
		e = v.directory(ino)
	}
	if e == api.OK {
		e = wrong(ino)
	}
	return ino, e
}

// at is find, of a path as a text.
func (v *VFS) at(text string, wrong func(ino int) api.Errno) (int, api.Errno) {
	p, e := split(text)
	if e != api.OK {
		return 0, e
	}
	return v.find(p, wrong)
}

// above answers the directory of an entry.
func (v *VFS) above(p place) (int, api.Errno) {
	return v.find(path{names: p.ahead()}, v.directory)
}

// missing answers the directory of a new entry whose name isn't there.
func (v *VFS) missing(p place) (int, api.Errno) {
	d, e := v.above(p)
	if e != api.OK {
		return 0, e
	}
	if _, ok := v.lookup(d, p.last); ok {
		return 0, api.ErrExist
	}
	return d, api.OK
}

// missingFile is missing, for an entry of a file.
func (v *VFS) missingFile(p place) (int, api.Errno) {
	d, e := v.missing(p)
	if e == api.OK && p.dir {
		e = api.ErrIsDir
	}
	return d, e
}

// longest answers how many bytes the longest of the paths has which Walk tells of an inode and what is below it, if its own path has size bytes without a / behind.
func (v *VFS) longest(ino, size int) int {
	if !v.isDir(ino) {
		return size
	}
	most := size + 1
	for _, s := range v.entries(ino) {
		most = max(most, v.longest(s.Ino, size+1+len(s.Name)))
	}
	return most
}
