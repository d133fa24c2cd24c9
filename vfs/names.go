package vfs

import (
	"marl/api"
	"marl/entry"
	"marl/name"
)

// Create makes a file; it answers its number.
func (v *VFS) Create(path string) (int, api.Errno) {
	if v.f.Dead() {
		return 0, api.ErrDead
	}
	p, e := parent(path)
	if e != api.OK {
		return 0, e
	}
	d, e := v.missingFile(p)
	if e != api.OK {
		return 0, e
	}
	return v.enter(d, p.last, api.KFile)
}

// Mkdir makes a directory; it answers its number.
func (v *VFS) Mkdir(path string) (int, api.Errno) {
	if v.f.Dead() {
		return 0, api.ErrDead
	}
	p, e := parent(path)
	if e != api.OK {
		return 0, e
	}
	d, e := v.missing(p)
	if e != api.OK {
		return 0, e
	}
	if p.size()+1 > api.MaxPath {
		return 0, api.ErrName
	}
	return v.enter(d, p.last, api.KDir)
}

// enter gives a new inode a name.
func (v *VFS) enter(d int, last string, kind int) (int, api.Errno) {
	if len(v.f.Inodes()) == v.f.Super().Inodes-1 {
		return 0, api.ErrFiles
	}
	at, e := v.admitEntry(d)
	if e != api.OK {
		return 0, e
	}
	ino, e := v.f.Make(kind)
	if e != api.OK {
		return 0, e
	}
	if e := v.put(d, at, entry.DirEntry{Ino: ino, Name: last}); e != api.OK {
		return 0, e
	}
	return ino, api.OK
}

// admitEntry answers a place for a new entry, with room for it, and for what it names.
func (v *VFS) admitEntry(d int) (int, api.Errno) {
	at, ok := v.spare(d)
	if !ok {
		return 0, api.ErrFull
	}
	return at, v.ensure(1, 2)
}

// Link gives a file one more name.
func (v *VFS) Link(old, path string) api.Errno {
	if v.f.Dead() {
		return api.ErrDead
	}
	from, e := split(old)
	if e != api.OK {
		return e
	}
	to, e := parent(path)
	if e != api.OK {
		return e
	}
	ino, e := v.find(from, v.linkable)
	if e != api.OK {
		return e
	}
	d, e := v.missingFile(to)
	if e != api.OK {
		return e
	}
	n, e := v.f.Stat(ino)
	if e != api.OK {
		return e
	}
	if n.Links == api.MaxLinks {
		return api.ErrLinks
	}
	at, e := v.admitEntry(d)
	if e != api.OK {
		return e
	}
	if e := v.f.SetLinks(ino, n.Links+1); e != api.OK {
		return e
	}
	return v.put(d, at, entry.DirEntry{Ino: ino, Name: to.last})
}

// remove takes the name away to which a path leads.
func (v *VFS) remove(text string, wrong func(ino int) api.Errno) api.Errno {
	if v.f.Dead() {
		return api.ErrDead
	}
	p, e := parent(text)
	if e != api.OK {
		return e
	}
	ino, e := v.find(p.path, wrong)
	if e != api.OK {
		return e
	}
	if e := v.ensure(1, 2); e != api.OK {
		return e
	}
	d, e := v.above(p)
	if e != api.OK {
		return e
	}
	if e := v.strike(d, p.last); e != api.OK {
		return e
	}
	return v.unname(ino)
}

// strike frees the entry of a name.
func (v *VFS) strike(d int, last string) api.Errno {
	s, ok := v.lookup(d, last)
	if !ok {
		return api.ErrNone
	}
	return v.put(d, s.at, entry.DirEntry{})
}

// unname tells an inode that it has a name less; with the last one it goes.
func (v *VFS) unname(ino int) api.Errno {
	n, e := v.f.Stat(ino)
	if e != api.OK {
		return e
	}
	if n.Links > 1 {
		return v.f.SetLinks(ino, n.Links-1)
	}
	return v.f.Remove(ino)
}

// Unlink takes a file's name away.
func (v *VFS) Unlink(path string) api.Errno { return v.remove(path, v.file) }

// Rmdir takes a directory away.
func (v *VFS) Rmdir(path string) api.Errno { return v.remove(path, v.empty) }

// Rename gives what has the old name the new one.
func (v *VFS) Rename(old, path string) api.Errno {
	if v.f.Dead() {
		return api.ErrDead
	}
	from, e := parent(old)
	if e != api.OK {
		return e
	}
	to, e := parent(path)
	if e != api.OK {
		return e
	}
	ino, e := v.find(from.path, v.any)
	if e != api.OK {
		return e
	}
	d, e := v.above(to)
	if e != api.OK {
		return e
	}
	there, _ := v.lookup(d, to.last)
	if e := v.renameable(ino, there, from, to); e != api.OK {
		return e
	}
	if there.Ino == ino {
		return api.OK
	}
	if v.isDir(ino) && v.longest(ino, to.size()) > api.MaxPath {
		return api.ErrName
	}
	up, e := v.above(from)
	if e != api.OK {
		return e
	}
	return v.move(ino, up, from.last, d, to.last, there)
}

// renameable answers why an inode can't have the name of what is there (a free slot: of nothing).
func (v *VFS) renameable(ino int, there slot, from, to place) api.Errno {
	dir := v.isDir(ino)
	if dir && len(to.names) > len(from.names) && name.Within(from.names, to.names) {
		return api.ErrRange
	}
	if to.dir && !dir {
		return api.ErrNotDir
	}
	if there.free() || there.Ino == ino {
		return api.OK
	}
	if dir {
		return v.empty(there.Ino)
	}
	return v.file(there.Ino)
}

// newPlace answers where the new entry of an inode comes that is renamed: over what is there, over its old one, or where there is a free one, so that a directory grows only where it must.
func (v *VFS) newPlace(up int, last string, d int, there slot) (int, bool) {
	if !there.free() {
		return there.at, true
	}
	if up == d {
		s, ok := v.lookup(up, last)
		return s.at, ok
	}
	return v.spare(d)
}

// move takes an inode's entry out of one directory into another one, or the same; what is there has a name less.
func (v *VFS) move(ino, up int, last string, d int, newLast string, there slot) api.Errno {
	at, ok := v.newPlace(up, last, d, there)
	if !ok {
		return api.ErrFull
	}
	// Two directories, and what was there.
	if e := v.ensure(2, 3); e != api.OK {
		return e
	}
	if up != d || !there.free() {
		if e := v.strike(up, last); e != api.OK {
			return e
		}
	}
	if e := v.put(d, at, entry.DirEntry{Ino: ino, Name: newLast}); e != api.OK {
		return e
	}
	if there.free() {
		return api.OK
	}
	return v.unname(there.Ino)
}
