package file

import (
	"marl/api"
	"marl/index"
	"marl/inode"
)

// Load answers the map that an inode's pointers tell; read answers the blocks at addresses.
func Load(ptr [9]uint32, read func(addr int) ([]byte, bool)) (*Map, api.Errno) {
	m := New()
	ask := once(read)
	var down func(n int, ptr []uint32) bool
	down = func(n int, ptr []uint32) bool {
		for slot, p := range ptr {
			if p == 0 {
				continue
			}
			c, ok := child(n, slot)
			if !ok || p >= api.MaxDisk {
				return false
			}
			if level, _ := index.Level(c); level > 0 {
				below, ok := ask(int(p))
				if !ok || !down(c, below[:]) {
					return false
				}
			}
			// Behind what is below it: a block of pointers comes by its data, so one that leads to nothing isn't there.
			if _, e := m.Set(c, int(p)); e != api.OK {
				return false
			}
		}
		return true
	}
	if !down(api.MaxFile, ptr[:]) {
		return nil, api.ErrForm
	}
	return m, api.OK
}

// answer is what a read came to.
type answer struct {
	ptr [api.Per]uint32
	ok  bool
}

// once answers a function that reads the pointers at an address, and asks for each address just once.
func once(read func(addr int) ([]byte, bool)) func(addr int) ([api.Per]uint32, bool) {
	seen := map[int]answer{}
	return func(addr int) ([api.Per]uint32, bool) {
		a, ok := seen[addr]
		if !ok {
			a = pointers(read, addr)
			seen[addr] = a
		}
		return a.ptr, a.ok
	}
}

// pointers reads those at an address.
func pointers(read func(addr int) ([]byte, bool), addr int) (a answer) {
	// A read that panics has said no, by the answer that stands till then.
	defer func() { _ = recover() }()
	b, ok := read(addr)
	if !ok {
		return answer{}
	}
	ptr, e := inode.Pointers(b)
	return answer{ptr, e == api.OK}
}
