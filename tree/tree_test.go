package tree_test

import (
	"bytes"
	"fmt"
	"math"
	"math/rand"
	"slices"
	"strings"
	"testing"

	"marl/api"
	"marl/name"
	. "marl/tree"
)

func made(t *testing.T, n int) *Tree {
	t.Helper()
	x, e := New(n)
	if e != api.OK {
		t.Fatalf("P14.1: New(%d): %d", n, e)
	}
	return x
}

func ino(n int, e api.Errno) string { return fmt.Sprint(n, " ", int(e)) }
func only(e api.Errno) string       { return fmt.Sprint(int(e)) }

// check holds what a step answered against what the chapter asks.
func check(t *testing.T, what, got, want string) {
	t.Helper()
	if got != want {
		t.Errorf("P14.1: %s: %s, want %s", what, got, want)
	}
}

// P14.1
func TestSizesOfNew(t *testing.T) {
	for _, n := range []int{math.MinInt, 0, 3, 201, math.MaxInt} {
		if x, e := New(n); x != nil || e != api.ErrRange {
			t.Errorf("P14.1: New(%d): %v, %d", n, x, e)
		}
	}
	x := made(t, 4)
	check(t, "a", ino(x.Create("/a")), "3 0")
	check(t, "b", ino(x.Mkdir("/b")), "4 0")
	check(t, "c", ino(x.Create("/c")), "0 23")
	check(t, "d", ino(x.Mkdir("/d")), "0 23")
	if l, _ := made(t, 200).List("/"); len(l) != 0 {
		t.Errorf("P14.1: %v", l)
	}
}

// P14.1
func TestExampleOfTheChapter(t *testing.T) {
	x := made(t, 9)
	check(t, "Mkdir /d", ino(x.Mkdir("/d")), "3 0")
	check(t, "Create /d/f", ino(x.Create("/d/f")), "4 0")
	check(t, "Link", only(x.Link("/d/f", "/g")), "0")
	check(t, "Unlink", only(x.Unlink("/d/f")), "0")
	check(t, "Rmdir", only(x.Rmdir("/d")), "0")
	check(t, "Create /h", ino(x.Create("/h")), "3 0")
	if l := x.Walk(); !slices.Equal(l, []string{"/g", "/h"}) {
		t.Errorf("P14.1: %v", l)
	}
}

// furnished answers /d/ with /d/f, /d/e/ in it; /g; and /x/ that is empty.
func furnished(t *testing.T) *Tree {
	x := made(t, 9)
	x.Mkdir("/d")
	x.Create("/d/f")
	x.Mkdir("/d/e")
	x.Create("/g")
	x.Mkdir("/x")
	return x
}

// P14.1
func TestErrorsInTheirOrder(t *testing.T) {
	long := "/" + strings.Repeat("n", 15)
	deep := strings.Repeat("/", 256)
	for _, c := range []struct {
		what string
		do   func(x *Tree) string
		want string
	}{
		{"too long a path", func(x *Tree) string { return ino(x.Create(deep)) }, "0 36"},
		{"no path", func(x *Tree) string { return ino(x.Create("g")) }, "0 22"},
		{"the root", func(x *Tree) string { return ino(x.Create("/")) }, "0 22"},
		{"too long a name", func(x *Tree) string { return ino(x.Create(long)) }, "0 36"},
		{"no parent", func(x *Tree) string { return ino(x.Create("/n/a/")) }, "0 2"},
		{"below a file", func(x *Tree) string { return ino(x.Create("/g/a")) }, "0 20"},
		{"farther below a file", func(x *Tree) string { return ino(x.Create("/g/a/b")) }, "0 20"},
		{"there", func(x *Tree) string { return ino(x.Create("/g/")) }, "0 17"},
		{"of a directory", func(x *Tree) string { return ino(x.Create("/n/")) }, "0 21"},
		{"Mkdir of a directory", func(x *Tree) string { return ino(x.Mkdir("/n/")) }, "8 0"},
		{"Mkdir there", func(x *Tree) string { return ino(x.Mkdir("/d")) }, "0 17"},
		{"Mkdir below a file", func(x *Tree) string { return ino(x.Mkdir("/g/d")) }, "0 20"},

		{"Link: both wrong", func(x *Tree) string { return only(x.Link("g", deep)) }, "22"},
		{"Link: second wrong", func(x *Tree) string { return only(x.Link("/n", deep)) }, "36"},
		{"Link: none", func(x *Tree) string { return only(x.Link("/n", "/g/x")) }, "2"},
		{"Link: a file as a directory", func(x *Tree) string { return only(x.Link("/g/", "/y")) }, "20"},
		{"Link: a directory", func(x *Tree) string { return only(x.Link("/d", "/g")) }, "1"},
		{"Link: the root", func(x *Tree) string { return only(x.Link("/", "/y")) }, "1"},
		{"Link: to the root", func(x *Tree) string { return only(x.Link("/g", "/")) }, "22"},
		{"Link: there", func(x *Tree) string { return only(x.Link("/g", "/d/f/")) }, "17"},
		{"Link: of a directory", func(x *Tree) string { return only(x.Link("/g", "/y/")) }, "21"},
		{"Link: below a file", func(x *Tree) string { return only(x.Link("/g", "/g/y")) }, "20"},
		{"Link: to itself", func(x *Tree) string { return only(x.Link("/g", "/g")) }, "17"},

		{"Unlink: none", func(x *Tree) string { return only(x.Unlink("/n")) }, "2"},
		{"Unlink: the root", func(x *Tree) string { return only(x.Unlink("/")) }, "22"},
		{"Unlink: a directory", func(x *Tree) string { return only(x.Unlink("/d")) }, "21"},
		{"Unlink: a file as a directory", func(x *Tree) string { return only(x.Unlink("/g/")) }, "20"},
		{"Unlink: below a file", func(x *Tree) string { return only(x.Unlink("/g/h")) }, "20"},
		{"Rmdir: a file", func(x *Tree) string { return only(x.Rmdir("/g")) }, "20"},
		{"Rmdir: the root", func(x *Tree) string { return only(x.Rmdir("//")) }, "22"},
		{"Rmdir: with entries", func(x *Tree) string { return only(x.Rmdir("/d/")) }, "39"},
		{"Rmdir: none", func(x *Tree) string { return only(x.Rmdir("/n")) }, "2"},
		{"Rmdir", func(x *Tree) string { return only(x.Rmdir("/d/e/")) }, "0"},

		{"Rename: none", func(x *Tree) string { return only(x.Rename("/n", "/g/y")) }, "2"},
		{"Rename: the root", func(x *Tree) string { return only(x.Rename("/", "/y")) }, "22"},
		{"Rename: to the root", func(x *Tree) string { return only(x.Rename("/n", "/")) }, "22"},
		{"Rename: no parent", func(x *Tree) string { return only(x.Rename("/d", "/n/y")) }, "2"},
		{"Rename: below a file", func(x *Tree) string { return only(x.Rename("/d", "/g/y")) }, "20"},
		{"Rename: no parent within", func(x *Tree) string { return only(x.Rename("/d", "/d/n/y")) }, "2"},
		{"Rename: within", func(x *Tree) string { return only(x.Rename("/d", "/d/e/y")) }, "22"},
		{"Rename: just within", func(x *Tree) string { return only(x.Rename("/d", "/d/e")) }, "22"},
		{"Rename: below the file itself", func(x *Tree) string { return only(x.Rename("/g", "/g/y")) }, "20"},
		{"Rename: a file to a directory's path", func(x *Tree) string { return only(x.Rename("/g", "/x/")) }, "20"},
		{"Rename: itself as a directory's path", func(x *Tree) string { return only(x.Rename("/g", "/g/")) }, "20"},
		{"Rename: a file as a directory", func(x *Tree) string { return only(x.Rename("/g/", "/y")) }, "20"},
		{"Rename: itself", func(x *Tree) string { return only(x.Rename("/g", "//g")) }, "0"},
		{"Rename: the directory itself", func(x *Tree) string { return only(x.Rename("/d", "/d/")) }, "0"},
		{"Rename: a file to a directory", func(x *Tree) string { return only(x.Rename("/g", "/x")) }, "21"},
		{"Rename: a directory to a file", func(x *Tree) string { return only(x.Rename("/d", "/g")) }, "20"},
		{"Rename: to a full directory", func(x *Tree) string { return only(x.Rename("/x", "/d")) }, "39"},
		{"Rename: to its parent", func(x *Tree) string { return only(x.Rename("/d/e", "/d")) }, "39"},
		{"Rename: a file to its parent", func(x *Tree) string { return only(x.Rename("/d/f", "/d")) }, "21"},
		{"Rename: to an empty directory", func(x *Tree) string { return only(x.Rename("/d", "/x/")) }, "0"},
		{"Rename: to a file", func(x *Tree) string { return only(x.Rename("/d/f", "/g")) }, "0"},

		{"Write: a directory", func(x *Tree) string { return only(x.Write("/d", -1, nil)) }, "21"},
		{"Write: none", func(x *Tree) string { return only(x.Write("/n", -1, nil)) }, "2"},
		{"Write: below 0", func(x *Tree) string { return only(x.Write("/g", -1, nil)) }, "22"},
		{"Write: too much", func(x *Tree) string { return only(x.Write("/g", math.MaxInt, make([]byte, 4097))) }, "22"},
		{"Write: too great", func(x *Tree) string { return only(x.Write("/g", 38400-4095, make([]byte, 4096))) }, "27"},
		{"Write: nothing too far", func(x *Tree) string { return only(x.Write("/g", 38401, nil)) }, "27"},
		{"Write: farthest", func(x *Tree) string { return only(x.Write("/g", math.MaxInt, []byte{1})) }, "27"},
		{"Write: the greatest", func(x *Tree) string { return only(x.Write("/g", 38400-4096, make([]byte, 4096))) }, "0"},
		{"Truncate: a directory", func(x *Tree) string { return only(x.Truncate("/d/", -1)) }, "21"},
		{"Truncate: below 0", func(x *Tree) string { return only(x.Truncate("/g", -1)) }, "22"},
		{"Truncate: too great", func(x *Tree) string { return only(x.Truncate("/g", 38401)) }, "27"},
		{"Truncate: the greatest", func(x *Tree) string { return only(x.Truncate("/g", 38400)) }, "0"},
		{"Truncate: as a directory", func(x *Tree) string { return only(x.Truncate("/g/", -1)) }, "20"},
	} {
		x := furnished(t)
		was := picture(x)
		got := c.do(x)
		check(t, c.what, got, c.want)
		if !strings.HasSuffix(got, "0") && picture(x) != was {
			t.Errorf("P14.2: %s, refused, changed something", c.what)
		}
	}
}

// picture tells a whole tree.
func picture(x *Tree) string {
	var b strings.Builder
	for _, p := range append(x.Walk(), "/") {
		s, e := x.Stat(p)
		fmt.Fprint(&b, p, s, e)
		if s.Kind == api.KFile {
			for at := 0; at < s.Size; at += 4096 {
				d, _ := x.Read(p, at, 4096)
				fmt.Fprintf(&b, "%x", d)
			}
		}
	}
	return b.String()
}

// P14.1
func TestReads(t *testing.T) {
	x := furnished(t)
	x.Write("/g", 3, []byte("abc"))
	x.Write("/g", 0, nil)
	for _, c := range []struct {
		path  string
		at, n int
		b     string
		e     api.Errno
	}{
		{"/g", 0, 4096, "\x00\x00\x00abc", 0}, {"/g", 4, 1, "b", 0}, {"/g", 6, 9, "", 0}, {"/g", 7, 9, "", 0}, {"/g", math.MaxInt, 1, "", 0}, {"/g", 1, 0, "", 0},
		{"/g", -1, 1, "", 22}, {"/g", 0, -1, "", 22}, {"/g", 0, 4097, "", 22}, {"/d", -1, 0, "", 21}, {"/g/", 0, 1, "", 20}, {"/n", -1, 1, "", 2}, {"n", 0, 1, "", 22},
	} {
		if b, e := x.Read(c.path, c.at, c.n); string(b) != c.b || e != c.e {
			t.Errorf("P14.1: Read(%q, %d, %d): %q, %d", c.path, c.at, c.n, b, e)
		}
	}
	x.Truncate("/g", 4)
	x.Truncate("/g", 6)
	if b, _ := x.Read("/g", 0, 9); string(b) != "\x00\x00\x00a\x00\x00" {
		t.Errorf("P14.1: cut and grown: %q", b)
	}
	x.Write("/g", 0, bytes.Repeat([]byte{1}, 9))
	x.Truncate("/g", 2)
	x.Write("/g", 5, []byte{2})
	if b, _ := x.Read("/g", 0, 99); string(b) != "\x01\x01\x00\x00\x00\x02" {
		t.Errorf("P14.1: written behind a cut end: %q", b)
	}
	x.Write("/d/f", 38399, []byte{7})
	if s, e := x.Stat("/d/f"); s != (api.Stat{Ino: 4, Kind: api.KFile, Links: 1, Size: 38400}) || e != api.OK {
		t.Errorf("P14.1: %v, %d", s, e)
	}
}

// P14.1
func TestStatAndList(t *testing.T) {
	x := furnished(t)
	x.Link("/g", "/d/a")
	for p, want := range map[string]api.Stat{"/": {Ino: 2, Kind: 2, Links: 1}, "/d/": {Ino: 3, Kind: 2, Links: 1}, "/g": {Ino: 6, Kind: 1, Links: 2}, "/d//a": {Ino: 6, Kind: 1, Links: 2}} {
		if s, e := x.Stat(p); s != want || e != api.OK {
			t.Errorf("P14.1: Stat(%q): %v, %d", p, s, e)
		}
	}
	for p, want := range map[string]api.Errno{"/g/": 20, "/n": 2, "": 22, "/g/x": 20} {
		if s, e := x.Stat(p); s != (api.Stat{}) || e != want {
			t.Errorf("P14.1: Stat(%q): %v, %d", p, s, e)
		}
		if l, e := x.List(p); l != nil || e != want {
			t.Errorf("P14.1: List(%q): %v, %d", p, l, e)
		}
	}
	if l, e := x.List("/g"); l != nil || e != api.ErrNotDir {
		t.Errorf("P14.1: List of a file: %v, %d", l, e)
	}
	if l, e := x.List("/d"); !slices.Equal(l, []string{"a", "e", "f"}) || e != api.OK {
		t.Errorf("P14.1: List: %v, %d", l, e)
	}
	x.Create("/d.")
	x.Create("/d0")
	// As texts: . comes ahead of /, that ahead of 0.
	if l := x.Walk(); !slices.Equal(l, []string{"/d.", "/d/", "/d/a", "/d/e/", "/d/f", "/d0", "/g", "/x/"}) {
		t.Errorf("P14.1: Walk: %v", l)
	}
}

// P14.1
func TestLongPaths(t *testing.T) {
	x := made(t, 200)
	base := ""
	for range 16 {
		base += "/12345678901234"
		if _, e := x.Mkdir(base); e != api.OK {
			t.Fatalf("P14.1: Mkdir: %d", e)
		}
	}
	// 240 bytes; with 14 more, and a /, 255 is just reached.
	check(t, "Mkdir of 256", ino(x.Mkdir(base+"/12345678901234")), "0 36")
	check(t, "Create of 255", ino(x.Create(base+"/12345678901234")), "19 0")
	check(t, "Mkdir of 255", ino(x.Mkdir(base+"/1234567890123")), "20 0")
	check(t, "there is ahead of too long", ino(x.Mkdir(base+"/12345678901234")), "0 17")
	x.Mkdir("/a")
	x.Mkdir("/a/b")
	check(t, "Rename far down", only(x.Rename("/a", base+"/1234567890123")), "36")
	check(t, "Rename far down, the one below too long", only(x.Rename("/a", base+"/123456789012")), "36")
	check(t, "Rename far down, just so", only(x.Rename("/a", base+"/12345678901")), "0")
	x.Mkdir("/c")
	x.Create("/c/123456789")
	check(t, "Rename with a file below, too long", only(x.Rename("/c", base+"/cccccc")), "36")
	check(t, "Rename with a file below, just so", only(x.Rename("/c", base+"/ccccc")), "36")
	check(t, "Rename with a file below, shorter", only(x.Rename("/c", base+"/cccc")), "0")
	x.Mkdir("/e")
	check(t, "Mkdir for Rename", ino(x.Mkdir(base+"/f")), "26 0")
	check(t, "to one that is there", only(x.Rename(base+"/f", "/e")), "0")
	for _, p := range x.Walk() {
		if len(p) > 255 {
			t.Errorf("P14.1: a path of %d bytes", len(p))
		}
	}
}

// P14.1
func TestLinks(t *testing.T) {
	x := made(t, 9)
	x.Create("/f")
	for i := range 99 {
		check(t, "Link", only(x.Link("/f", fmt.Sprint("/", i))), "0")
	}
	check(t, "Link there is ahead", only(x.Link("/f", "/5")), "17")
	check(t, "one Link more", only(x.Link("/f", "/more")), "31")
	x.Create("/g")
	check(t, "Rename over a name", only(x.Rename("/g", "/5")), "0")
	check(t, "Rename to the same inode", only(x.Rename("/6", "/7")), "0")
	if s, _ := x.Stat("/f"); s.Links != 99 || len(x.Walk()) != 100 {
		t.Errorf("P14.2: %v, %d", s, len(x.Walk()))
	}
}

// model is a tree told as a list of paths.
type model struct {
	n     int
	paths map[string]int // by the names, with / ahead; "" is the root
	kind  map[int]int
	data  map[int][]byte
}

func (m *model) links(ino int) int {
	n := 0
	for _, i := range m.paths {
		if i == ino {
			n++
		}
	}
	return n
}

func (m *model) fresh() int {
	for i := 2; i <= m.n; i++ {
		if m.kind[i] == 0 {
			return i
		}
	}
	return 0
}

func (m *model) empty(p string) bool {
	for q := range m.paths {
		if strings.HasPrefix(q, p+"/") {
			return false
		}
	}
	return true
}

func (m *model) lead(names []string, dir bool) (string, int, api.Errno) {
	p := ""
	for _, n := range names {
		if m.kind[m.paths[p]] == 1 {
			return "", 0, api.ErrNotDir
		}
		p += "/" + n
		if m.paths[p] == 0 {
			return "", 0, api.ErrNone
		}
	}
	if dir && m.kind[m.paths[p]] == 1 {
		return "", 0, api.ErrNotDir
	}
	return p, m.paths[p], api.OK
}

// fill answers a new entry's path, whether it is of a directory, and the error up to its parent.
func (m *model) fill(path string) (string, bool, api.Errno) {
	names, last, e := name.Parent(path)
	if e != api.OK {
		return "", false, e
	}
	p, i, e := m.lead(names, false)
	if e == api.OK && m.kind[i] == 1 {
		e = api.ErrNotDir
	}
	return p + "/" + last, strings.HasSuffix(path, "/"), e
}

func (m *model) create(path string, kind int) (int, api.Errno) {
	p, dir, e := m.fill(path)
	switch {
	case e != api.OK:
		return 0, e
	case m.paths[p] != 0:
		return 0, api.ErrExist
	case kind == 1 && dir:
		return 0, api.ErrIsDir
	case kind == 2 && len(p)+1 > 255:
		return 0, api.ErrName
	case m.fresh() == 0:
		return 0, api.ErrFiles
	}
	i := m.fresh()
	m.paths[p], m.kind[i], m.data[i] = i, kind, nil
	return i, api.OK
}

func (m *model) link(old, path string) api.Errno {
	names, dir, e := name.Split(old)
	if e != api.OK {
		return e
	}
	if _, _, e := name.Parent(path); e != api.OK {
		return e
	}
	_, i, e := m.lead(names, dir)
	if e != api.OK {
		return e
	}
	if m.kind[i] == 2 {
		return api.ErrPerm
	}
	p, dir, e := m.fill(path)
	switch {
	case e != api.OK:
		return e
	case m.paths[p] != 0:
		return api.ErrExist
	case dir:
		return api.ErrIsDir
	case m.links(i) == 100:
		return api.ErrLinks
	}
	m.paths[p] = i
	return api.OK
}

func (m *model) drop(p string) {
	i := m.paths[p]
	delete(m.paths, p)
	if m.links(i) == 0 {
		delete(m.kind, i)
	}
}

func (m *model) remove(path string, kind int) api.Errno {
	if _, _, e := name.Parent(path); e != api.OK {
		return e
	}
	names, dir, _ := name.Split(path)
	p, i, e := m.lead(names, dir)
	switch {
	case e != api.OK:
		return e
	case m.kind[i] != kind && kind == 1:
		return api.ErrIsDir
	case m.kind[i] != kind:
		return api.ErrNotDir
	case !m.empty(p):
		return api.ErrEmpty
	}
	m.drop(p)
	return api.OK
}

func (m *model) rename(old, path string) api.Errno {
	if _, _, e := name.Parent(old); e != api.OK {
		return e
	}
	if _, _, e := name.Parent(path); e != api.OK {
		return e
	}
	names, dir, _ := name.Split(old)
	p, i, e := m.lead(names, dir)
	if e != api.OK {
		return e
	}
	q, dir, e := m.fill(path)
	there := m.paths[q]
	isDir := m.kind[i] == 2
	switch {
	case e != api.OK:
		return e
	case isDir && strings.HasPrefix(q, p+"/"):
		return api.ErrRange
	case dir && !isDir:
		return api.ErrNotDir
	case there == i:
		return api.OK
	case there != 0 && !isDir && m.kind[there] == 2:
		return api.ErrIsDir
	case there != 0 && isDir && m.kind[there] == 1:
		return api.ErrNotDir
	case there != 0 && isDir && !m.empty(q):
		return api.ErrEmpty
	}
	if there != 0 {
		m.drop(q)
	}
	moved := map[string]int{}
	for x, i := range m.paths {
		if x == p || strings.HasPrefix(x, p+"/") {
			moved[x] = i
		}
	}
	for x := range moved {
		delete(m.paths, x)
	}
	for x, i := range moved {
		m.paths[q+x[len(p):]] = i
	}
	return api.OK
}

func (m *model) resize(i, size int) {
	b := make([]byte, size)
	copy(b, m.data[i])
	m.data[i] = b
}

// same holds the tree against the model, path by path.
func (m *model) same(t *testing.T, x *Tree) {
	t.Helper()
	var l []string
	for p, i := range m.paths {
		s, e := x.Stat("/" + p)
		want := api.Stat{Ino: i, Kind: m.kind[i], Links: m.links(i), Size: len(m.data[i])}
		if s != want || e != api.OK {
			t.Fatalf("P14.2: %q: %v, %d, want %v", p, s, e, want)
		}
		if m.kind[i] == 1 {
			if b, e := x.Read(p, 0, 4096); !bytes.Equal(b, m.data[i]) || e != api.OK {
				t.Fatalf("P14.1: bytes of %q: % x, %d, want % x", p, b, e, m.data[i])
			}
			l = append(l, p)
		} else if p != "" {
			l = append(l, p+"/")
		}
	}
	slices.Sort(l)
	if w := x.Walk(); !slices.Equal(w, l) {
		t.Fatalf("P14.1: Walk: %v, want %v", w, l)
	}
}

// P14.1, P14.2
func TestRandomCalls(t *testing.T) {
	for seed := range 60 {
		r := rand.New(rand.NewSource(int64(seed)))
		n := 4 + r.Intn(8)
		x, m := made(t, n), &model{n, map[string]int{"": 2}, map[int]int{2: 2}, map[int][]byte{}}
		path := func() string {
			p := ""
			for range 1 + r.Intn(4) {
				p += "/" + string("abc"[r.Intn(3)])
			}
			return p + strings.Repeat("/", r.Intn(7)/6)
		}
		for range 250 {
			p, q := path(), path()
			var got, want string
			switch r.Intn(9) {
			case 0, 1:
				got, want = ino(x.Create(p)), ino(m.create(p, 1))
			case 2, 3:
				got, want = ino(x.Mkdir(p)), ino(m.create(p, 2))
			case 4:
				got, want = only(x.Link(p, q)), only(m.link(p, q))
			case 5:
				got, want = only(x.Unlink(p)), only(m.remove(p, 1))
			case 6:
				got, want = only(x.Rmdir(p)), only(m.remove(p, 2))
			case 7:
				got, want = only(x.Rename(p, q)), only(m.rename(p, q))
			case 8:
				names, dir, _ := name.Split(p)
				_, i, e := m.lead(names, dir)
				if m.kind[i] == 2 && e == api.OK {
					e = api.ErrIsDir
				}
				at, d := r.Intn(30), make([]byte, r.Intn(20))
				r.Read(d)
				if r.Intn(2) == 0 {
					got, want = only(x.Truncate(p, at)), only(e)
					if e == api.OK {
						m.resize(i, at)
					}
				} else {
					got, want = only(x.Write(p, at, d)), only(e)
					if e == api.OK && len(d) > 0 {
						m.resize(i, max(at+len(d), len(m.data[i])))
						copy(m.data[i][at:], d)
					}
				}
			}
			if got != want {
				t.Fatalf("P14.1: %q, %q: %s, want %s", p, q, got, want)
			}
			m.same(t, x)
		}
	}
}

// P14.3
func TestNothingIsKeptOrShared(t *testing.T) {
	x := furnished(t)
	b := append([]byte("abc"), 1, 2)
	x.Write("/g", 0, b[:3])
	b[0] = 'x'
	got, _ := x.Read("/g", 0, 9)
	got[1] = 'x'
	_ = append(got[:1], 7, 7)
	if again, _ := x.Read("/g", 0, 9); string(again) != "abc" || b[3] != 1 {
		t.Errorf("P14.3: %q", again)
	}
	l, _ := x.List("/d")
	l[0] = "?"
	w := x.Walk()
	w[0] = "?"
	if m, _ := x.List("/d"); m[0] != "e" || x.Walk()[0] != "/d/" {
		t.Error("P14.3: answers share")
	}
}
