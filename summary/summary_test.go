package summary_test

import (
	"bytes"
	"math"
	"math/rand"
	"reflect"
	"slices"
	"testing"

	"marl/api"
	. "marl/summary"
)

// somePart answers a summary by chance.
func somePart(r *rand.Rand) api.Part {
	for {
		p := api.Part{Epoch: r.Intn(65536), Count: r.Intn(65536), Parts: 1 + r.Intn(64), Next: r.Intn(4096)}
		p.Index = r.Intn(p.Parts)
		for range r.Intn(4) {
			f := api.Finfo{Ino: 1 + r.Intn(200), Version: r.Intn(65536)}
			for range 1 + r.Intn(30)/(1+r.Intn(6)) {
				f.Lbns = append(f.Lbns, []int{r.Intn(600), -6, -22, -23, -280, -279, -278, -22 - 16*r.Intn(16)}[r.Intn(7)])
			}
			p.Files = append(p.Files, f)
		}
		for range r.Intn(10) {
			p.Inos = append(p.Inos, 1+r.Intn(200))
		}
		if Check(p) == api.OK {
			return p
		}
	}
}

func same(a, b api.Part) bool {
	return a.Epoch == b.Epoch && a.Count == b.Count && a.Index == b.Index && a.Parts == b.Parts && a.Next == b.Next && slices.Equal(a.Inos, b.Inos) &&
		slices.EqualFunc(a.Files, b.Files, func(f, g api.Finfo) bool {
			return f.Ino == g.Ino && f.Version == g.Version && slices.Equal(f.Lbns, g.Lbns)
		})
}

func many(n, x int) []int { return slices.Repeat([]int{x}, n) }

// P6.1
func TestWhatIsASummary(t *testing.T) {
	with := func(change func(p *api.Part)) api.Part {
		p := api.Part{Parts: 1, Files: []api.Finfo{{Ino: 1, Lbns: []int{0}}}, Inos: []int{1}}
		change(&p)
		return p
	}
	for i, c := range []struct {
		p api.Part
		e api.Errno
	}{
		{with(func(p *api.Part) {}), api.OK},
		{with(func(p *api.Part) { p.Epoch = 65535 }), api.OK}, {with(func(p *api.Part) { p.Epoch = 65536 }), api.ErrRange}, {with(func(p *api.Part) { p.Epoch = -1 }), api.ErrRange},
		{with(func(p *api.Part) { p.Count = 65535 }), api.OK}, {with(func(p *api.Part) { p.Count = 65536 }), api.ErrRange}, {with(func(p *api.Part) { p.Count = -1 }), api.ErrRange},
		{with(func(p *api.Part) { p.Parts = 64; p.Index = 63 }), api.OK}, {with(func(p *api.Part) { p.Parts = 65 }), api.ErrRange}, {with(func(p *api.Part) { p.Parts = 0 }), api.ErrRange},
		{with(func(p *api.Part) { p.Index = 1 }), api.ErrRange}, {with(func(p *api.Part) { p.Index = -1 }), api.ErrRange}, {with(func(p *api.Part) { p.Parts = math.MinInt }), api.ErrRange},
		{with(func(p *api.Part) { p.Next = 4095 }), api.OK}, {with(func(p *api.Part) { p.Next = 4096 }), api.ErrRange}, {with(func(p *api.Part) { p.Next = -1 }), api.ErrRange},
		{with(func(p *api.Part) { p.Files[0].Ino = 200 }), api.OK}, {with(func(p *api.Part) { p.Files[0].Ino = 201 }), api.ErrRange}, {with(func(p *api.Part) { p.Files[0].Ino = 0 }), api.ErrRange},
		{with(func(p *api.Part) { p.Files[0].Version = 65535 }), api.OK}, {with(func(p *api.Part) { p.Files[0].Version = 65536 }), api.ErrRange}, {with(func(p *api.Part) { p.Files[0].Version = -1 }), api.ErrRange},
		{with(func(p *api.Part) { p.Files[0].Lbns = nil }), api.ErrRange}, {with(func(p *api.Part) { p.Files[0].Lbns = many(30, 599) }), api.OK}, {with(func(p *api.Part) { p.Files[0].Lbns = many(31, 5) }), api.ErrRange},
		{with(func(p *api.Part) { p.Files[0].Lbns[0] = 600 }), api.ErrRange}, {with(func(p *api.Part) { p.Files[0].Lbns[0] = -280 }), api.OK}, {with(func(p *api.Part) { p.Files[0].Lbns[0] = -7 }), api.ErrRange},
		{with(func(p *api.Part) { p.Inos[0] = 200 }), api.OK}, {with(func(p *api.Part) { p.Inos[0] = 0 }), api.ErrRange}, {with(func(p *api.Part) { p.Inos[0] = 201 }), api.ErrRange},
		{with(func(p *api.Part) { p.Inos = many(72, 3) }), api.OK}, {with(func(p *api.Part) { p.Inos = many(73, 3) }), api.ErrBig}, {with(func(p *api.Part) { p.Inos = many(300, 3) }), api.ErrBig},
		{with(func(p *api.Part) { p.Inos = append(many(300, 3), 0) }), api.ErrRange},
		{with(func(p *api.Part) { p.Files = slices.Repeat(p.Files, 13); p.Inos = nil }), api.OK},
		{with(func(p *api.Part) { p.Files = slices.Repeat(p.Files, 13) }), api.ErrBig},
	} {
		if e := Check(c.p); e != c.e {
			t.Errorf("P6.1: Check %d: %d, want %d", i, e, c.e)
		}
		b, e := Encode(c.p, 5)
		if e != c.e || (e == api.OK) != (len(b) == 128) || e != api.OK && b != nil {
			t.Errorf("P6.1: Encode %d: %v, %d", i, b, e)
		}
		if p, s, e := Decode(b); c.e == api.OK && (!same(p, c.p) || s != 5 || e != api.OK) {
			t.Errorf("P6.2: Decode %d: %v, %d, %d", i, p, s, e)
		}
	}
}

// P6.1
func TestSizesAndBlocks(t *testing.T) {
	if p := (api.Part{Parts: 1}); Size(p) != 10 || Blocks(p) != 2 {
		t.Errorf("P6.1: %d, %d", Size(p), Blocks(p))
	}
	p := api.Part{Parts: 1, Files: []api.Finfo{{Ino: 2, Lbns: []int{1, 2}}, {Ino: 3, Lbns: []int{0}}}, Inos: []int{4, 5, 6, 7}}
	if Size(p) != 10+8+6+4 || Blocks(p) != 2+3+4 {
		t.Errorf("P6.1: %d, %d", Size(p), Blocks(p))
	}
}

// P6.1
func TestBytesOfASummary(t *testing.T) {
	p := api.Part{Epoch: 0x102, Count: 0x304, Index: 5, Parts: 6, Next: 0x708, Files: []api.Finfo{{Ino: 9, Version: 0xa0b, Lbns: []int{7, -280}}}, Inos: []int{12, 200}}
	b, e := Encode(p, 0x11223344)
	w := []byte{5, 6, 8, 7, 1, 2, 0x44, 0x33, 0x22, 0x11, 9, 0xb, 0xa, 2, 0xef, 3, 0xd0, 2, 12, 200}
	w = append(w, make([]byte, 88-len(w))...)
	var want []byte
	for place := range 8 {
		want = append(want, 2, 1, 4, 3, byte(place))
		want = append(want, w[11*place:][:11]...)
	}
	if e != api.OK || !bytes.Equal(b, want) {
		t.Errorf("P6.1: % x, %d\nwant % x", b, e, want)
	}
}

// P6.2
func TestThereAndBack(t *testing.T) {
	r := rand.New(rand.NewSource(1))
	for range 3000 {
		p, s := somePart(r), r.Uint32()
		b, e := Encode(p, s)
		if e != api.OK {
			t.Fatalf("P6.1: %v: %d", p, e)
		}
		q, s2, e := Decode(b)
		if !same(p, q) || s != s2 || e != api.OK {
			t.Fatalf("P6.2: %v comes out as %v, %d", p, q, e)
		}
	}
}

// P6.2
func TestOtherBytes(t *testing.T) {
	r := rand.New(rand.NewSource(2))
	decoded := 0
	for range 4000 {
		b, _ := Encode(somePart(r), r.Uint32())
		for range 1 + r.Intn(3) {
			b[r.Intn(128)] = byte(r.Intn(256) >> r.Intn(8))
		}
		p, s, e := Decode(b)
		if e != api.OK {
			if e != api.ErrForm || s != 0 || !reflect.DeepEqual(p, api.Part{}) {
				t.Fatalf("P6.1: % x: %v, %d, %d", b, p, s, e)
			}
			continue
		}
		decoded++
		if again, e := Encode(p, s); e != api.OK || !bytes.Equal(again, b) {
			t.Fatalf("P6.2: % x is decoded to %v", b, p)
		}
	}
	if decoded == 0 {
		t.Error("no changed bytes were a summary's")
	}
	b, _ := Encode(api.Part{Parts: 1}, 0)
	for _, c := range [][]byte{nil, b[:64], b[:127], append(bytes.Clone(b), 0), make([]byte, 128), bytes.Repeat([]byte{255}, 128)} {
		if _, _, e := Decode(c); e != api.ErrForm {
			t.Errorf("P6.1: %d bytes: %d", len(c), e)
		}
	}
	// Words that would go on behind the last byte.
	long := bytes.Clone(b)
	long[9], long[10] = 255, 255
	if _, _, e := Decode(long); e != api.ErrForm {
		t.Errorf("P6.1: too many words: %d", e)
	}
	stray := bytes.Clone(b)
	stray[127] = 1
	if _, _, e := Decode(stray); e != api.ErrForm {
		t.Errorf("P6.1: something behind the words: %d", e)
	}
}

// P6.3
func TestNoMixture(t *testing.T) {
	r := rand.New(rand.NewSource(3))
	for range 300 {
		p, q := somePart(r), somePart(r)
		if r.Intn(2) == 0 {
			q = p
			q.Count = (p.Count + 1) % 65536
		} else if r.Intn(2) == 0 {
			q = p
			q.Epoch = (p.Epoch + 1) % 65536
		}
		a, _ := Encode(p, 1)
		b, _ := Encode(q, 1)
		if p.Epoch == q.Epoch && p.Count == q.Count {
			continue
		}
		for set := 1; set < 255; set++ {
			mix := bytes.Clone(a)
			for s := range 8 {
				if set>>s&1 == 1 {
					copy(mix[16*s:16*s+16], b[16*s:])
				}
			}
			if _, _, e := Decode(mix); e != api.ErrForm {
				t.Fatalf("P6.3: sectors %b of one, the rest of the other: %d", set, e)
			}
		}
	}
}

// P6.4
func TestNothingIsShared(t *testing.T) {
	lbns, inos := []int{1, 2, 3}, []int{4, 5, 6}
	p := api.Part{Parts: 1, Files: []api.Finfo{{Ino: 1, Lbns: lbns[:2]}}, Inos: inos[:2]}
	b, _ := Encode(p, 0)
	was := bytes.Clone(b)
	room := append(bytes.Clone(b), 1, 2)
	q, _, _ := Decode(room[:128])
	q.Files[0].Lbns[0] = 9
	q.Inos = append(q.Inos[:0], 9, 9)
	_ = append(q.Files[0].Lbns[:0], 8, 8, 8)
	if !bytes.Equal(room[:128], was) || room[128] != 1 || !slices.Equal(lbns, []int{1, 2, 3}) || !slices.Equal(inos, []int{4, 5, 6}) {
		t.Error("P6.4: what is handed in is changed")
	}
	b[0] = 77
	if c, _ := Encode(p, 0); !bytes.Equal(c, was) {
		t.Error("P6.4: answers share")
	}
	if q.Inos[0] != 9 || q.Files[0].Lbns[0] != 9 || q.Files[0].Lbns[1] != 2 {
		t.Error("P6.4: lists of one answer share")
	}
}
