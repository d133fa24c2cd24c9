package vfs

import "marl/api"

// descriptor is of an inode, if it is open.
type descriptor struct {
	open         bool
	ino, version int
}

// Open answers a descriptor of a file.
func (v *VFS) Open(path string) (int, api.Errno) {
	ino, e := v.at(path, v.file)
	if e != api.OK {
		return 0, e
	}
	n, e := v.f.Stat(ino)
	if e != api.OK {
		return 0, e
	}
	for fd := range v.fds {
		if !v.fds[fd].open {
			v.fds[fd] = descriptor{true, ino, n.Version}
			return fd, api.OK
		}
	}
	return 0, api.ErrFds
}

func (v *VFS) isOpen(fd int) bool { return fd >= 0 && fd < len(v.fds) && v.fds[fd].open }

// Close lets a descriptor be open no more.
func (v *VFS) Close(fd int) api.Errno {
	if !v.isOpen(fd) {
		return api.ErrFd
	}
	v.fds[fd] = descriptor{}
	return api.OK
}

// of answers the inode of a descriptor.
func (v *VFS) of(fd int) (int, api.Errno) {
	if !v.isOpen(fd) {
		return 0, api.ErrFd
	}
	d := v.fds[fd]
	if n, e := v.f.Stat(d.ino); e != api.OK || n.Version != d.version {
		return 0, api.ErrStale
	}
	return d.ino, api.OK
}

// ReadAt answers at most n bytes of an open file from at on.
func (v *VFS) ReadAt(fd, at, n int) ([]byte, api.Errno) {
	ino, e := v.of(fd)
	if e != api.OK {
		return nil, e
	}
	return v.f.Read(ino, at, n)
}

// WriteAt lets an open file have these bytes from at on.
func (v *VFS) WriteAt(fd, at int, data []byte) api.Errno {
	if v.f.Dead() {
		return api.ErrDead
	}
	ino, e := v.of(fd)
	if e != api.OK {
		return e
	}
	return v.write(ino, at, data)
}

// Sync lets all come to the disk.
func (v *VFS) Sync() api.Errno { return v.f.Flush() }

// Fsync lets an open file come to the disk, and all else.
func (v *VFS) Fsync(fd int) api.Errno {
	if v.f.Dead() {
		return api.ErrDead
	}
	if _, e := v.of(fd); e != api.OK {
		return e
	}
	return v.f.Flush()
}
