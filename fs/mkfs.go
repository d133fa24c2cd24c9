package fs

import (
	"marl/api"
	"marl/disk"
	"marl/geom"
	"marl/point"
	"marl/seg"
)

// ifileOf answers what the inode map's file is.
func ifileOf(s geom.Super) api.Inode {
	return api.Inode{Ino: api.Ifile, Kind: api.KFile, Links: 1, Size: mapBlocks(s) * api.Block}
}

// Mkfs makes a file system on a disk, whatever stood on it.
func Mkfs(d *disk.Disk, s geom.Super) (*FS, api.Errno) {
	if s.Check() != api.OK || d.Size() < s.Blocks {
		return nil, api.ErrRange
	}
	f, e := blank(d, s)
	if e != api.OK {
		return nil, e
	}
	if e := f.lay(); e != api.OK {
		return nil, e
	}
	f.nodes[api.Ifile] = newNode(ifileOf(s))
	if e := f.makeRoot(); e != api.OK {
		return nil, e
	}
	if e := f.checkpoint(); e != api.OK {
		return nil, e
	}
	return f, api.OK
}

// lay makes the disk one without points, of the geometry, with room for the first batch.
func (f *FS) lay() api.Errno {
	// The points ahead of all else, so that nothing is opened that is half laid.
	if e := point.Wipe(f.d); e != api.OK {
		return e
	}
	b, e := geom.Encode(f.super)
	if e != api.OK {
		return e
	}
	if e := f.d.Write(0, b); e != api.OK {
		return e
	}
	if e := f.d.Barrier(); e != api.OK {
		return e
	}
	first, e := f.use.Take()
	if e != api.OK {
		return e
	}
	f.epoch = firstEpoch
	f.next, e = f.super.First(first)
	if e != api.OK {
		return e
	}
	return seg.Clear(f.d, f.next)
}

// makeRoot makes the directory that is there always.
func (f *FS) makeRoot() api.Errno {
	ino, version, e := f.imap.Alloc()
	if e != api.OK {
		return e
	}
	n := newNode(api.Inode{Ino: ino, Version: version, Kind: api.KDir, Links: 1})
	f.nodes[ino] = n
	f.touch(n)
	return api.OK
}
