package fs

import (
	"slices"

	"marl/api"
	"marl/cache"
	"marl/point"
)

// settled tells that what was dirty of a node is written.
func (f *FS) settled(n *node) {
	for lbn := range n.dirty {
		if lbn >= 0 && n.Ino != api.Ifile {
			f.cache.Clean(cache.Key{Ino: n.Ino, Lbn: lbn})
		}
	}
	clear(n.dirty)
}

// toWrite answers the inodes of the next flush, rising.
func (f *FS) toWrite() []int {
	var l []int
	for ino := range f.changed {
		l = append(l, ino)
	}
	slices.Sort(l)
	return l
}

// flush writes what was changed since the last one.
func (f *FS) flush() api.Errno {
	inos := f.toWrite()
	if len(inos) == 0 {
		return api.OK
	}
	if e := f.flushed(inos); e != api.OK {
		return e
	}
	clear(f.changed)
	return api.OK
}

// flushMap writes the inode map's changed blocks.
func (f *FS) flushMap() api.Errno {
	m := f.nodes[api.Ifile]
	for _, k := range f.imap.Dirty() {
		m.mark(k)
	}
	if len(m.dirty) == 0 && !f.remap {
		return api.OK
	}
	if e := f.flushed([]int{api.Ifile}); e != api.OK {
		return e
	}
	f.imap.Wash()
	f.remap = false
	return api.OK
}

// save writes a point of where the next batch comes.
func (f *FS) save() api.Errno {
	if !f.unsaved {
		return api.OK
	}
	if f.count > lastCount && f.epoch < maxNumber {
		f.epoch, f.count = f.epoch+1, 0
	}
	p := point.Point{Epoch: f.epoch, Count: f.count, Next: f.next, Ifile: f.nodes[api.Ifile].at}
	if e := f.met(point.Save(f.d, p)); e != api.OK {
		return e
	}
	f.unsaved = false
	return api.OK
}

// checkpoint is a flush, the map, a point; behind it what has nothing in use is clean, since no opening goes back there.
func (f *FS) checkpoint() api.Errno {
	if e := f.flush(); e != api.OK {
		return e
	}
	if e := f.flushMap(); e != api.OK {
		return e
	}
	if e := f.save(); e != api.OK {
		return e
	}
	f.use.Sweep()
	return api.OK
}

// Flush lets all changes come to the disk.
func (f *FS) Flush() api.Errno {
	if f.dead {
		return api.ErrDead
	}
	return f.flush()
}

// Checkpoint lets all changes, and the inode map, come to the disk.
func (f *FS) Checkpoint() api.Errno {
	if f.dead {
		return api.ErrDead
	}
	return f.checkpoint()
}
