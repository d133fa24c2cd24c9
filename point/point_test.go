package point_test

import (
	"bytes"
	"math"
	"math/rand"
	"slices"
	"testing"

	"marl/api"
	"marl/disk"
	. "marl/point"
)

func made(t *testing.T, n int) *disk.Disk {
	t.Helper()
	d, e := disk.New(n)
	if e != api.OK {
		t.Fatal(e)
	}
	return d
}

// P17.1
func TestWhatIsAPoint(t *testing.T) {
	for _, c := range []struct {
		p  Point
		ok bool
	}{
		{Point{}, true}, {Point{65535, 65535, 4095, 4095}, true}, {Point{65536, 0, 0, 0}, false}, {Point{0, 65536, 0, 0}, false}, {Point{0, 0, 4096, 0}, false}, {Point{0, 0, 0, 4096}, false},
		{Point{-1, 0, 0, 0}, false}, {Point{0, -1, 0, 0}, false}, {Point{0, 0, -1, 0}, false}, {Point{0, 0, 0, -1}, false}, {Point{math.MinInt, math.MaxInt, 0, 0}, false},
	} {
		want := api.ErrRange
		if c.ok {
			want = api.OK
		}
		b, e := Encode(c.p)
		if c.p.Check() != want || e != want || (len(b) == 64) != c.ok || !c.ok && b != nil {
			t.Errorf("P17.1: %v: %d, %v, %d", c.p, c.p.Check(), b, e)
		}
		if p, e := Decode(b); c.ok && (p != c.p || e != api.OK) {
			t.Errorf("P17.3: %v comes out as %v, %d", c.p, p, e)
		}
		d := made(t, 3)
		if e := Save(d, c.p); e != want || d.Steps() != map[bool]int{true: 2}[c.ok] {
			t.Errorf("P17.1: Save(%v): %d, %d steps", c.p, e, d.Steps())
		}
	}
}

// P17.1
func TestNewer(t *testing.T) {
	for _, c := range []struct {
		p, q  Point
		newer bool
	}{
		{Point{1, 0, 0, 0}, Point{0, 9, 0, 0}, true}, {Point{0, 9, 0, 0}, Point{1, 0, 0, 0}, false}, {Point{1, 2, 0, 0}, Point{1, 1, 9, 9}, true}, {Point{1, 1, 9, 9}, Point{1, 1, 0, 0}, false},
	} {
		if c.p.Newer(c.q) != c.newer {
			t.Errorf("P17.1: %v, %v", c.p, c.q)
		}
	}
}

// P17.1
func TestBytesOfAPoint(t *testing.T) {
	b, e := Encode(Point{0x102, 0x304, 0x506, 0x708})
	want := []byte{2, 1, 4, 3, 0, 6, 5, 8, 7, 0, 0, 0, 0, 0, 0, 0}
	for place := 1; place < 4; place++ {
		want = append(want, 2, 1, 4, 3, byte(place), 0, 0, 0, 0, 0, 0, 0, 0, 0, 0, 0)
	}
	if e != api.OK || !bytes.Equal(b, want) {
		t.Errorf("P17.1: % x, %d", b, e)
	}
}

// P17.3
func TestOtherBlocks(t *testing.T) {
	b, _ := Encode(Point{1, 2, 3, 4})
	for _, c := range [][]byte{nil, b[:16], b[:63], append(bytes.Clone(b), 0), make([]byte, 64), bytes.Repeat([]byte{255}, 64)} {
		if p, e := Decode(c); p != (Point{}) || e != api.ErrForm {
			t.Errorf("P17.1: %d bytes: %v, %d", len(c), p, e)
		}
	}
	words := map[int]bool{5: true, 6: true, 7: true, 8: true}
	for i := range 64 {
		for _, v := range []byte{1, 7, 16, 255} {
			c := bytes.Clone(b)
			c[i] ^= v
			p, e := Decode(c)
			ok := words[i] && c[6] < 16 && c[8] < 16
			if (e == api.OK) != ok || e != api.OK && (e != api.ErrForm || p != (Point{})) {
				t.Errorf("P17.3: byte %d turned: %v, %d", i, p, e)
			}
		}
	}
	other, _ := Encode(Point{1, 3, 3, 4})
	for set := 1; set < 15; set++ {
		c := bytes.Clone(b)
		for s := range 4 {
			if set>>s&1 == 1 {
				copy(c[16*s:16*s+16], other[16*s:])
			}
		}
		if _, e := Decode(c); e != api.ErrForm {
			t.Errorf("P17.3: sectors %b of another one: %d", set, e)
		}
	}
}

func blockOf(t *testing.T, d *disk.Disk, i int) Point {
	t.Helper()
	b, _ := d.Read(i)
	p, e := Decode(b)
	if e != api.OK {
		t.Fatalf("P17.1: block %d is no point's", i)
	}
	return p
}

// P17.1
func TestExampleOfTheChapter(t *testing.T) {
	d := made(t, 10)
	if p, ok := Load(d); ok || p != (Point{}) {
		t.Errorf("P17.1: %v", p)
	}
	for i, p := range []Point{{1, 0, 3, 5}, {1, 1, 9, 8}, {2, 0, 4, 4}} {
		if e := Save(d, p); e != api.OK || blockOf(t, d, 1+i%2) != p || len(d.Queue()) != 0 || d.Steps() != 2*i+2 {
			t.Errorf("P17.1: Save(%v): %d", p, e)
		}
		if q, ok := Load(d); q != p || !ok {
			t.Errorf("P17.1: Load: %v, %v", q, ok)
		}
	}
	for _, p := range []Point{{1, 9, 3, 5}, {2, 0, 9, 9}, {2, 0, 4, 4}} {
		if e := Save(d, p); e != api.ErrStale || d.Steps() != 6 {
			t.Errorf("P17.1: Save(%v): %d", p, e)
		}
	}
	if blockOf(t, d, 2) != (Point{1, 1, 9, 8}) {
		t.Error("P17.1: a refused Save wrote")
	}
}

// P17.1
func TestTheOneThatCounts(t *testing.T) {
	lay := func(a, b Point) *disk.Disk {
		d := made(t, 3)
		x, _ := Encode(a)
		y, _ := Encode(b)
		d.Write(1, x)
		d.Write(2, y)
		return d
	}
	for _, c := range [][3]Point{{{1, 1, 7, 7}, {1, 1, 8, 8}, {1, 1, 7, 7}}, {{1, 1, 7, 7}, {1, 2, 8, 8}, {1, 2, 8, 8}}, {{2, 0, 7, 7}, {1, 2, 8, 8}, {2, 0, 7, 7}}} {
		d := lay(c[0], c[1])
		if p, ok := Load(d); p != c[2] || !ok {
			t.Errorf("P17.1: %v: %v, %v", c, p, ok)
		}
		Save(d, Point{9, 9, 9, 9})
		kept := 1
		if c[2] == c[1] {
			kept = 2
		}
		if blockOf(t, d, kept) != c[2] || blockOf(t, d, 3-kept) != (Point{9, 9, 9, 9}) {
			t.Errorf("P17.1: %v: the one that counted is gone", c)
		}
	}
	// One alone, in block 2.
	d := made(t, 3)
	x, _ := Encode(Point{1, 1, 1, 1})
	d.Write(2, x)
	if e := Save(d, Point{1, 2, 1, 1}); e != api.OK || blockOf(t, d, 1).Count != 2 || blockOf(t, d, 2).Count != 1 {
		t.Errorf("P17.1: %d", e)
	}
}

// P17.1
func TestSmallDisksAndWipe(t *testing.T) {
	for n := 1; n < 3; n++ {
		d := made(t, n)
		b, _ := Encode(Point{1, 1, 1, 1})
		d.Write(n-1, b)
		p, ok := Load(d)
		if ok || p != (Point{}) || Save(d, Point{2, 2, 2, 2}) != api.ErrRange || Wipe(d) != api.ErrRange || d.Steps() != 1 {
			t.Errorf("P17.1: a disk of %d blocks: %v, %v", n, p, ok)
		}
	}
	if e := Wipe(made(t, 3)); e != api.OK {
		t.Errorf("P17.1: Wipe of three blocks: %d", e)
	}
	d := made(t, 4)
	Save(d, Point{1, 0, 1, 1})
	Save(d, Point{1, 1, 1, 1})
	d.Write(3, bytes.Repeat([]byte{7}, 64))
	if e := Wipe(d); e != api.OK || d.Steps() != 8 || len(d.Queue()) != 0 {
		t.Errorf("P17.1: Wipe: %d, %d steps", e, d.Steps())
	}
	for i, want := range []byte{0, 0, 0, 7} {
		if b, _ := d.Read(i); b[0] != want || b[63] != want {
			t.Errorf("P17.1: block %d: % x", i, b)
		}
	}
	if _, ok := Load(d); ok {
		t.Error("P17.1: there is a point")
	}
}

// P17.1
func TestDeadDisks(t *testing.T) {
	for k, queue := range [][]int{{}, {1}} {
		d := made(t, 4)
		d.Arm(k)
		if e := Save(d, Point{1, 0, 1, 1}); e != api.ErrDead || !slices.Equal(d.Queue(), queue) {
			t.Errorf("P17.1: Save with %d steps: %d, %v", k, e, d.Queue())
		}
		if e := Save(d, Point{-1, 0, 1, 1}); e != api.ErrRange {
			t.Errorf("P17.1: %d", e)
		}
	}
	for k, queue := range [][]int{{}, {1}, {1, 2}} {
		d := made(t, 4)
		d.Arm(k)
		if e := Wipe(d); e != api.ErrDead || !slices.Equal(d.Queue(), queue) {
			t.Errorf("P17.1: Wipe with %d steps: %d, %v", k, e, d.Queue())
		}
	}
}

// P17.2
func TestPowerWithinASave(t *testing.T) {
	r := rand.New(rand.NewSource(1))
	for range 3000 {
		d := made(t, 3)
		elder := Point{1, 1, 1, 1}
		n := r.Intn(4)
		for range n {
			Save(d, elder)
			elder = Point{elder.Epoch + r.Intn(2), elder.Count + 1 + r.Intn(3), r.Intn(4096), r.Intn(4096)}
		}
		was, there := Load(d)
		newer := Point{elder.Epoch, elder.Count, r.Intn(4096), r.Intn(4096)}
		d.Arm(r.Intn(4))
		e := Save(d, newer)
		keep := make([]bool, r.Intn(2))
		for k := range keep {
			keep[k] = r.Intn(2) == 0
		}
		c := d.Crash(keep, r.Intn(2), r.Intn(16))
		p, ok := Load(c)
		isOld, isNew := ok == there && p == was, ok && p == newer
		if !isOld && !isNew || e == api.OK && !isNew {
			t.Fatalf("P17.2: %v, then %v: %v, %v", was, newer, p, ok)
		}
	}
}

// P17.3
func TestNothingIsShared(t *testing.T) {
	b, _ := Encode(Point{1, 2, 3, 4})
	was := bytes.Clone(b)
	room := append(bytes.Clone(b), 1)
	Decode(room[:64])
	if !bytes.Equal(room, append(bytes.Clone(was), 1)) {
		t.Error("P17.3: what is handed in is changed")
	}
	b[0] = 9
	if c, _ := Encode(Point{1, 2, 3, 4}); !bytes.Equal(c, was) {
		t.Error("P17.3: answers share")
	}
}
