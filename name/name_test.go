package name_test

import (
	"math/rand"
	"slices"
	"strings"
	"testing"

	"marl/api"
	"marl/entry"
	. "marl/name"
)

// P8.1
func TestSplit(t *testing.T) {
	long := strings.Repeat("/123456789", 25) // 250 bytes
	for _, c := range []struct {
		path  string
		names []string
		dir   bool
		e     api.Errno
	}{
		{"//a/b/", []string{"a", "b"}, true, api.OK},
		{"/a/../b", nil, false, api.ErrRange},
		{"/", nil, true, api.OK},
		{"///", nil, true, api.OK},
		{"", nil, false, api.ErrRange},
		{"a", nil, false, api.ErrRange},
		{"a/b", nil, false, api.ErrRange},
		{"/a", []string{"a"}, false, api.OK},
		{"/a//", []string{"a"}, true, api.OK},
		{"/a///b", []string{"a", "b"}, false, api.OK},
		{"/./a", nil, false, api.ErrRange},
		{"/a/123456789012345/..", nil, false, api.ErrName},
		{"/a/../123456789012345", nil, false, api.ErrRange},
		{"/a\x00b", nil, false, api.ErrRange},
		{"/\xff\xfe/ä", []string{"\xff\xfe", "ä"}, false, api.OK},
		{long + "/1234", append(slices.Repeat([]string{"123456789"}, 25), "1234"), false, api.OK},
		{long + "/12345", nil, false, api.ErrName},
		{strings.Repeat("/", 255), nil, true, api.OK},
		{strings.Repeat("/", 256), nil, false, api.ErrName},
		{strings.Repeat("x", 256), nil, false, api.ErrName},
		{strings.Repeat("x", 255), nil, false, api.ErrRange},
	} {
		names, dir, e := Split(c.path)
		if !slices.Equal(names, c.names) || dir != c.dir || e != c.e {
			t.Errorf("P8.1: Split(%q): %q, %v, %d", c.path, names, dir, e)
		}
		ahead, last, e := Parent(c.path)
		want := c.e
		if want == api.OK && len(c.names) == 0 {
			want = api.ErrRange
		}
		if e != want || e != api.OK && (ahead != nil || last != "") || e == api.OK && !slices.Equal(append(slices.Clone(ahead), last), c.names) {
			t.Errorf("P8.1: Parent(%q): %q, %q, %d", c.path, ahead, last, e)
		}
	}
}

// P8.1
func TestJoin(t *testing.T) {
	for _, c := range []struct {
		names []string
		path  string
		e     api.Errno
	}{
		{nil, "/", api.OK},
		{[]string{"a"}, "/a", api.OK},
		{[]string{"a", "b"}, "/a/b", api.OK},
		{[]string{"a", ""}, "", api.ErrRange},
		{[]string{"", "123456789012345"}, "", api.ErrRange},
		{[]string{"123456789012345", ""}, "", api.ErrName},
		{[]string{"a/b"}, "", api.ErrRange},
		{slices.Repeat([]string{"12345678901234"}, 17), strings.Repeat("/12345678901234", 17), api.OK},
		{slices.Repeat([]string{"12345678901234"}, 18), "", api.ErrName},
		{append(slices.Repeat([]string{"12345678901234"}, 18), "."), "", api.ErrRange},
	} {
		if p, e := Join(c.names); p != c.path || e != c.e {
			t.Errorf("P8.1: Join(%q): %q, %d", c.names, p, e)
		}
	}
}

// P8.1
func TestWithin(t *testing.T) {
	for _, c := range []struct {
		a, b []string
		in   bool
	}{
		{nil, nil, true}, {nil, []string{"a"}, true}, {[]string{"a"}, nil, false}, {[]string{"a"}, []string{"a"}, true}, {[]string{"a"}, []string{"a", "b"}, true},
		{[]string{"a", "b"}, []string{"a"}, false}, {[]string{"b"}, []string{"a", "b"}, false}, {[]string{"a"}, []string{"ab"}, false}, {[]string{""}, []string{"", "x"}, true},
	} {
		if in := Within(c.a, c.b); in != c.in {
			t.Errorf("P8.1: Within(%q, %q): %v", c.a, c.b, in)
		}
	}
}

// P8.2
func TestThereAndBack(t *testing.T) {
	r := rand.New(rand.NewSource(1))
	for range 3000 {
		var b strings.Builder
		b.WriteByte('/')
		for range r.Intn(40) {
			b.WriteString([]string{"/", "/", "a", ".", "bc", "\xff", "ö"}[r.Intn(7)])
		}
		names, _, e := Split(b.String())
		if e != api.OK {
			continue
		}
		p, e := Join(names)
		again, dir, e2 := Split(p)
		if e != api.OK || e2 != api.OK || !slices.Equal(again, names) || dir != (len(names) == 0) {
			t.Fatalf("P8.2: %q: %q, %q, %q", b.String(), names, p, again)
		}
		for _, n := range names {
			if entry.Name(n) != api.OK {
				t.Fatalf("P8.1: %q is told a name", n)
			}
		}
	}
}

// P8.3
func TestNothingIsShared(t *testing.T) {
	names := []string{"a", "b", "c"}
	Join(names[:2])
	Within(names[:1], names[:2])
	if !slices.Equal(names, []string{"a", "b", "c"}) {
		t.Error("P8.3: what is handed in is changed")
	}
	ahead, last, _ := Parent("/a/b/c")
	if cap(ahead) != 2 || last != "c" {
		t.Errorf("P8.3: %q, %q with room for %d", ahead, last, cap(ahead))
	}
}
