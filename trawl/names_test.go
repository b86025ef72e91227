package trawl

import (
	"slices"
	"testing"
	"unsafe"

	"trawl/api"
)

func TestNames(t *testing.T) {
	for _, c := range []struct {
		pattern string
		want    []string
	}{
		{``, nil}, {`a`, nil}, {`(?:a)(?i:b)`, nil}, {`\(a\)`, nil}, {`[(a)]`, nil},
		{`()`, []string{""}}, {`(a)(b)`, []string{"", ""}}, {`(?<a>)`, []string{"a"}}, {`(?<abcdefgh>x)`, []string{"abcdefgh"}},
		{`(?<z>(?<y>a)|(?:(?<x>b)))(?<w>)`, []string{"z", "y", "x", "w"}}, {`((?<in>a)|(?i:(b)))(?<out>c)`, []string{"", "in", "", "out"}},
		{`(?<a>){0}(?<b>){3}`, []string{"a", "b"}},
		{times(100, "()"), make([]string, 100)},
	} {
		if names, e := Names(c.pattern); e != api.OK || !slices.Equal(names, c.want) {
			t.Errorf("P4: Names(%.60q) = %q, %d, want %q", c.pattern, names, e, c.want)
		}
	}
}

func TestNamesError(t *testing.T) {
	for _, c := range []struct {
		pattern string
		e       api.Errno
	}{
		{times(151, "()"), api.ErrLong}, {"(?<a>)\xff", api.ErrRune}, {`(?<a>)(`, api.ErrForm}, {`(?<a>x{21})`, api.ErrRepeat}, {`(?<a>[b-a])`, api.ErrClass}, {`(?<a>)(?<a>)`, api.ErrName}, {`(?<a>(?:x{20}){20}){20}`, api.ErrBig},
	} {
		if names, e := Names(c.pattern); e != c.e || len(names) != 0 {
			t.Errorf("P1, P4: Names(%.60q) = %q, %d, want nothing and %d", c.pattern, names, e, c.e)
		}
	}
}

func TestNamesAreNewMemory(t *testing.T) {
	pattern := `(?<first>a)(?<second>b)()`
	names, _ := Names(pattern)
	for i := range names[:cap(names)] {
		names[:cap(names)][i] = "spoilt"
	}
	names, _ = Names(pattern)
	if !slices.Equal(names, []string{"first", "second", ""}) {
		t.Errorf("P2: what was written into an answer is seen in the next: %q", names)
	}
	begin := uintptr(unsafe.Pointer(unsafe.StringData(pattern)))
	for _, name := range names[:2] {
		if at := uintptr(unsafe.Pointer(unsafe.StringData(name))); begin <= at && at < begin+uintptr(len(pattern)) {
			t.Errorf("P2: the name %q is a piece of the pattern that was handed in", name)
		}
	}
}
