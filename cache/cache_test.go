package cache_test

import (
	"bytes"
	"cmp"
	"math"
	"math/rand"
	"slices"
	"testing"

	"marl/api"
	. "marl/cache"
)

func full(x byte) []byte { return bytes.Repeat([]byte{x}, api.Block) }

func made(t *testing.T, room int) *Cache {
	t.Helper()
	c, e := New(room)
	if e != api.OK {
		t.Fatalf("P9.1: New(%d): %d", room, e)
	}
	return c
}

// P9.1
func TestRooms(t *testing.T) {
	for _, n := range []int{math.MinInt, -1, 0, 4097, math.MaxInt} {
		if c, e := New(n); c != nil || e != api.ErrRange {
			t.Errorf("P9.1: New(%d): %v, %d", n, c, e)
		}
	}
	c := made(t, 4096)
	for i := range 4096 {
		if e := c.Put(Key{math.MinInt, -i}, full(1), true); e != api.OK {
			t.Fatalf("P9.1: Put %d: %d", i, e)
		}
	}
	if e := c.Put(Key{1, 1}, full(1), false); e != api.ErrFull || c.Len() != 4096 {
		t.Errorf("P9.1: one more: %d, %d", e, c.Len())
	}
}

// P9.1
func TestExamplesOfTheChapter(t *testing.T) {
	c := made(t, 2)
	c.Put(Key{0, 1}, full(1), false)
	c.Put(Key{0, 2}, full(2), false)
	c.Get(Key{0, 1})
	c.Put(Key{0, 3}, full(3), false)
	if _, ok := c.Get(Key{0, 2}); ok || !slices.Equal(c.Order(), []Key{{0, 1}, {0, 3}}) {
		t.Errorf("P9.1: %v", c.Order())
	}
	c = made(t, 1)
	c.Put(Key{0, 1}, full(1), true)
	if e := c.Put(Key{0, 2}, full(2), false); e != api.ErrFull {
		t.Errorf("P9.1: %d", e)
	}
}

// P9.1
func TestRefusals(t *testing.T) {
	c := made(t, 2)
	k := Key{1, 2}
	for name, e := range map[string]api.Errno{"Clean": c.Clean(k), "Pin": c.Pin(k), "Unpin": c.Unpin(k), "Drop": c.Drop(k)} {
		if e != api.ErrNone {
			t.Errorf("P9.1: %s of none: %d", name, e)
		}
	}
	for _, n := range []int{0, 63, 65} {
		if e := c.Put(k, make([]byte, n), true); e != api.ErrRange || c.Len() != 0 {
			t.Errorf("P9.1: Put of %d bytes: %d", n, e)
		}
	}
	if b, ok := c.Get(k); b != nil || ok {
		t.Errorf("P9.1: Get of none: %v, %v", b, ok)
	}
	c.Put(k, full(1), true)
	if c.Unpin(k) != api.ErrRange || c.Pin(k) != api.OK || c.Pin(k) != api.OK || c.Drop(k) != api.ErrBusy || c.Unpin(k) != api.OK || c.Drop(k) != api.ErrBusy || c.Unpin(k) != api.OK || c.Unpin(k) != api.ErrRange || c.Drop(k) != api.OK || c.Drop(k) != api.ErrNone {
		t.Error("P9.1: pinned and dropped")
	}
}

// P9.1: a Put again leaves it dirty, and pinned; Pin, Clean are no use.
func TestPutAgain(t *testing.T) {
	c := made(t, 2)
	a, b := Key{1, 1}, Key{1, 2}
	c.Put(a, full(1), true)
	c.Put(b, full(2), false)
	c.Put(a, full(3), false)
	if !slices.Equal(c.Dirty(), []Key{a}) || !slices.Equal(c.Order(), []Key{b, a}) {
		t.Errorf("P9.1: dirty %v, order %v", c.Dirty(), c.Order())
	}
	c.Pin(b)
	c.Clean(b)
	c.Clean(a)
	if len(c.Dirty()) != 0 || !slices.Equal(c.Order(), []Key{b, a}) {
		t.Errorf("P9.1: dirty %v, order %v", c.Dirty(), c.Order())
	}
	c.Put(b, full(4), true)
	if e := c.Drop(b); e != api.ErrBusy {
		t.Errorf("P9.1: it is pinned no more: %d", e)
	}
	if x, ok := c.Get(b); !ok || !bytes.Equal(x, full(4)) {
		t.Errorf("P9.1: % x", x)
	}
}

// plain is a cache told plainly: a list in the order of last use.
type plain struct {
	room int
	l    []plainBuf
}

type plainBuf struct {
	k     Key
	data  []byte
	dirty bool
	pins  int
}

func (p *plain) find(k Key) int {
	return slices.IndexFunc(p.l, func(b plainBuf) bool { return b.k == k })
}

func (p *plain) put(k Key, data []byte, dirty bool) api.Errno {
	b := plainBuf{k, data, dirty, 0}
	if i := p.find(k); i >= 0 {
		b.dirty = b.dirty || p.l[i].dirty
		b.pins = p.l[i].pins
		p.l = slices.Delete(p.l, i, i+1)
	} else if len(p.l) == p.room {
		i := slices.IndexFunc(p.l, func(b plainBuf) bool { return !b.dirty && b.pins == 0 })
		if i < 0 {
			return api.ErrFull
		}
		p.l = slices.Delete(p.l, i, i+1)
	}
	p.l = append(p.l, b)
	return api.OK
}

func (p *plain) get(k Key) ([]byte, bool) {
	i := p.find(k)
	if i < 0 {
		return nil, false
	}
	b := p.l[i]
	p.l = append(slices.Delete(p.l, i, i+1), b)
	return b.data, true
}

func (p *plain) act(what int, k Key) api.Errno {
	i := p.find(k)
	if i < 0 {
		return api.ErrNone
	}
	b := &p.l[i]
	switch what {
	case 0:
		b.dirty = false
	case 1:
		b.pins++
	case 2:
		if b.pins == 0 {
			return api.ErrRange
		}
		b.pins--
	case 3:
		if b.pins > 0 {
			return api.ErrBusy
		}
		p.l = slices.Delete(p.l, i, i+1)
	}
	return api.OK
}

// P9.1, P9.2
func TestRandomCalls(t *testing.T) {
	for seed := range 40 {
		r := rand.New(rand.NewSource(int64(seed)))
		room := 1 + r.Intn(8)
		c, p := made(t, room), &plain{room: room}
		for range 1500 {
			k := Key{r.Intn(3) - 1, r.Intn(6) - 3}
			switch what := r.Intn(9); what {
			case 0, 1, 2, 3:
				e := []func(Key) api.Errno{c.Clean, c.Pin, c.Unpin, c.Drop}[what](k)
				if want := p.act(what, k); e != want {
					t.Fatalf("P9.1: act %d of %v: %d, want %d", what, k, e, want)
				}
			case 4, 5, 6:
				data, dirty := full(byte(r.Intn(256))), r.Intn(3) == 0
				if e, want := c.Put(k, data, dirty), p.put(k, data, dirty); e != want {
					t.Fatalf("P9.1: Put of %v: %d, want %d", k, e, want)
				}
			default:
				b, ok := c.Get(k)
				want, wantOk := p.get(k)
				if ok != wantOk || !bytes.Equal(b, want) {
					t.Fatalf("P9.1: Get of %v: %v", k, ok)
				}
			}
			var order, dirty []Key
			for _, b := range p.l {
				order = append(order, b.k)
				if b.dirty {
					dirty = append(dirty, b.k)
				}
			}
			slices.SortFunc(dirty, func(a, b Key) int {
				return cmp.Or(cmp.Compare(a.Ino, b.Ino), cmp.Compare(a.Lbn, b.Lbn))
			})
			if !slices.Equal(c.Order(), order) || !slices.Equal(c.Dirty(), dirty) || c.Len() != len(order) || c.Len() > room {
				t.Fatalf("P9.2: order %v, want %v; dirty %v, want %v", c.Order(), order, c.Dirty(), dirty)
			}
		}
	}
}

// P9.3
func TestNothingIsKeptOrShared(t *testing.T) {
	c := made(t, 2)
	b := full(1)
	c.Put(Key{1, 1}, b, true)
	b[0] = 9
	x, _ := c.Get(Key{1, 1})
	x[1] = 9
	if y, _ := c.Get(Key{1, 1}); !bytes.Equal(y, full(1)) {
		t.Errorf("P9.3: % x", y)
	}
	c.Order()[0] = Key{}
	c.Dirty()[0] = Key{}
	if c.Order()[0] != (Key{1, 1}) || c.Dirty()[0] != (Key{1, 1}) {
		t.Error("P9.3: answers share")
	}
}
