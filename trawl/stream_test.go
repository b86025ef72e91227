package trawl

import (
	"slices"
	"strings"
	"testing"

	"trawl/api"
	"trawl/flow"
)

func TestOpen(t *testing.T) {
	for _, c := range []struct {
		pattern string
		o       api.Options
		e       api.Errno
	}{
		{`a`, api.Options{Cache: 2}, api.OK}, {``, api.Options{Cache: 1000}, api.OK}, {`a`, api.Options{Engine: 1, Cache: 2, Window: 1}, api.OK}, {`a`, api.Options{Engine: 2, Cache: 1000, Window: 1000000}, api.OK},
		{`a`, api.Options{}, api.ErrOptions}, {`a`, api.Options{Cache: 1}, api.ErrOptions}, {`a`, api.Options{Cache: 1001}, api.ErrOptions}, {`a`, api.Options{Cache: -2}, api.ErrOptions}, {`a`, api.Options{Engine: 1}, api.ErrOptions},
		{`a`, api.Options{Engine: -1, Cache: 2}, api.ErrOptions}, {`a`, api.Options{Engine: 3, Cache: 2}, api.ErrOptions}, {`a`, api.Options{Cache: 2, Window: -1}, api.ErrOptions}, {`a`, api.Options{Cache: 2, Window: 1000001}, api.ErrOptions},
		{`a(`, api.Options{Cache: 2}, api.ErrForm}, {`a(`, api.Options{}, api.ErrForm}, {times(301, "a"), api.Options{Engine: 3}, api.ErrLong}, {"\xff", api.Options{}, api.ErrRune}, {`a{21}`, api.Options{}, api.ErrRepeat}, {`[b-a]`, api.Options{}, api.ErrClass}, {`(?<a>)(?<a>)`, api.Options{}, api.ErrName}, {`((a{20}){20}){3}`, api.Options{}, api.ErrBig},
	} {
		if s, e := Open(c.pattern, c.o); e != c.e || (s != nil) != (c.e == api.OK) {
			t.Errorf("P1, P6: Open(%.60q, %+v) = %d, a Stream: %v, want %d", c.pattern, c.o, e, s != nil, c.e)
		}
	}
}

// streamCase is a pattern, what is fed, with `|` between, and all events; and of each Feed how many events must have been told by then, and how many bytes may be kept.
type streamCase struct {
	pattern, parts, want string
	told, kept           []int
}

func tryStreams(t *testing.T, cases []streamCase) {
	t.Helper()
	for _, c := range cases {
		for _, o := range engines {
			parts := strings.Split(c.parts, "|")
			l := stream(t, c.pattern, o, parts)
			if tell(l.events) != c.want {
				t.Errorf("P7: %q, %+v, in the parts %q: %s, want %s", c.pattern, o, parts, tell(l.events), c.want)
			}
			for i := range parts {
				if l.told[i] < c.told[i] || l.kept[i] > c.kept[i] {
					t.Errorf("P8, P9: %q, %+v, behind the parts %q: %d events told, %d bytes kept, want %d at least, %d at most", c.pattern, o, parts[:i+1], l.told[i], l.kept[i], c.told[i], c.kept[i])
				}
			}
		}
	}
}

func TestStreamExamples(t *testing.T) {
	tryStreams(t, []streamCase{
		{`ab+`, "xa|bb|c", `1-4"abb"`, []int{0, 0, 1}, []int{1, 3, 0}}, {`ab+`, "ab", `0-2"ab"`, []int{0}, []int{2}}, {`é`, "\xc3|\xa9", `0-2"é"`, []int{0, 0}, []int{1, 2}},
	})
}

func TestStreamParts(t *testing.T) {
	tryStreams(t, []streamCase{
		{`a`, "", ``, []int{0}, []int{0}}, {``, "", `0-0""`, []int{0}, []int{0}}, {`a`, "||a||b", `0-1"a"`, []int{0, 0, 0, 0, 1}, []int{0, 0, 1, 1, 0}}, {`a*`, "b|aa|b", `0-0"" 1-3"aa" 4-4""`, []int{1, 1, 2}, []int{0, 2, 0}}, {``, "a|é|", `0-0"" 1-1"" 3-3""`, []int{1, 2, 2}, []int{0, 0, 0}},
		{`a|abc`, "a|b|1", `0-1"a"`, []int{0, 0, 1}, []int{1, 2, 0}}, {`abc|a`, "a|b|1", `0-1"a"`, []int{0, 0, 1}, []int{1, 2, 0}}, {`ab|bc`, "a|b|c", `0-2"ab"`, []int{0, 0, 1}, []int{1, 2, 0}}, {`a(.*z)?|x`, "a|xx|\n", `0-1[-1,-1]"a" 1-2[-1,-1]"x" 2-3[-1,-1]"x"`, []int{0, 0, 3}, []int{1, 3, 0}}, {`(a)(b)?`, "a|ba", `0-2[0,1,1,2]"ab" 2-3[2,3,-1,-1]"a"`, []int{0, 1}, []int{1, 1}},
		{`a.*b`, "zz|a1|b2|\n", `2-5"a1b"`, []int{0, 0, 0, 1}, []int{0, 2, 4, 0}}, {`x*y|x`, "x|xx|z", `0-1"x" 1-2"x" 2-3"x"`, []int{0, 0, 3}, []int{1, 3, 0}}, {`aab|a`, "aa|aa|-", `0-1"a" 1-2"a" 2-3"a" 3-4"a"`, []int{0, 2, 4}, []int{2, 2, 0}},
	})
}

// TestStreamRunes cuts runes, and what is none but begins like one.
func TestStreamRunes(t *testing.T) {
	tryStreams(t, []streamCase{
		{`.`, "\xf0|\x9f|\x98|\x80", `0-4"😀"`, []int{0, 0, 0, 0}, []int{1, 2, 3, 4}}, {`..`, "\xf0|\x9f|\x98|a", `0-2"\xf0\x9f" 2-4"\x98a"`, []int{0, 0, 0, 1}, []int{1, 2, 3, 2}}, {`.`, "\xc3|", `0-1"\xc3"`, []int{0, 0}, []int{1, 1}}, {`é`, "\xc3|\xc3|\xa9", `1-3"é"`, []int{0, 0, 0}, []int{1, 1, 2}}, {`é`, "\xc3|a", ``, []int{0, 0}, []int{1, 0}}, {`a`, "\xe2|\x82|a|b", `2-3"a"`, []int{0, 0, 0, 1}, []int{1, 2, 1, 0}}, {"\ufffd", "\xed|\xa0|x", `0-1"\xed" 1-2"\xa0"`, []int{0, 1, 2}, []int{1, 1, 0}}, {`x`, "xx\xf0\x9f\x98", `0-1"x" 1-2"x"`, []int{1}, []int{4}},
	})
}

// TestStreamEdges cuts where it hangs on the rune ahead or behind, or on there being none.
func TestStreamEdges(t *testing.T) {
	tryStreams(t, []streamCase{
		{`\bcat\b`, "ca|t con|cat c|a|t", `0-3"cat" 11-14"cat"`, []int{0, 1, 1, 1, 1}, []int{2, 1, 1, 2, 3}}, {`^a|b$`, "a|ab|b", `0-1"a" 3-4"b"`, []int{0, 1, 1}, []int{1, 1, 1}}, {`$`, "|a|", `1-1""`, []int{0, 0, 0}, []int{0, 0, 0}}, {`^`, "|a|a", `0-0""`, []int{0, 1, 1}, []int{0, 0, 0}}, {`\Ba`, "a|a", `1-2"a"`, []int{0, 0}, []int{1, 2}}, {`\ba`, "é|a|a", `2-3"a"`, []int{0, 0, 1}, []int{0, 1, 1}}, {`a\b`, "a|a|-", `1-2"a"`, []int{0, 0, 1}, []int{1, 1, 0}}, {`^$`, "", `0-0""`, []int{0}, []int{0}}, {`^$`, "|a", ``, []int{0, 0}, []int{0, 0}},
	})
}

// TestStreamInTime feeds four bytes behind the time of the last event at once.
func TestStreamInTime(t *testing.T) {
	tryStreams(t, []streamCase{
		{`ab`, "xab1234", `1-3"ab"`, []int{1}, []int{0}}, {`a+`, "aaab1234", `0-3"aaa"`, []int{1}, []int{0}}, {`a|abcd`, "abc|z1234", `0-1"a"`, []int{0, 1}, []int{3, 0}}, {`a.{3}`, "aaaa|éééé", `0-4"aaaa"`, []int{0, 1}, []int{4, 0}}, {`(?:ab*)*c|a`, "abab|d", `0-1"a" 2-3"a"`, []int{0, 2}, []int{4, 0}}, {`^$|b`, "ab||1", `1-2"b"`, []int{0, 0, 1}, []int{1, 1, 0}},
	})
}

// TestStreamStates goes through a text of which many states come.
func TestStreamStates(t *testing.T) {
	text := cutAt(times(3, "abbaabababbbaaabbab"), -1)
	most := 0
	for _, cache := range []int{2, 3, 10, 1000} {
		l := stream(t, `[ab]*a[ab]{5}c`, api.Options{Engine: 2, Cache: cache}, text)
		if n := slices.Max(l.states); n > cache || n < most {
			t.Errorf("P9: with Cache %d %d states were kept", cache, n)
		} else {
			most = n
		}
		if slices.Min(l.states[3:]) < 1 {
			t.Errorf("P9: with Cache %d there were %v states", cache, l.states)
		}
	}
	if most <= 10 {
		t.Errorf("P6, P9: %d states at most were kept: Engine 2 does not go by states", most)
	}
	if n := slices.Max(stream(t, `[ab]*a[ab]{5}c`, api.Options{Engine: 1, Cache: 1000}, text).states); n != 0 {
		t.Errorf("P9: Engine 1 keeps %d states", n)
	}
}

func tryClosed(t *testing.T, about string, s *Stream) {
	t.Helper()
	for range 2 {
		l, e := s.Feed([]byte("ab"))
		m, f := s.Close()
		if len(l) != 0 || len(m) != 0 || e != api.ErrClosed || f != api.ErrClosed || s.Kept() != 0 || s.States() != 0 {
			t.Errorf("P1, P7, P9: %s: Feed: %s, %d, Close: %s, %d, want nothing and ErrClosed; %d bytes, %d states, want 0", about, tell(l), e, tell(m), f, s.Kept(), s.States())
		}
	}
}

func TestStreamClosed(t *testing.T) {
	tryClosed(t, "nil", nil)
	tryClosed(t, "not made by Open", new(Stream))
	for _, o := range engines {
		s, _ := Open(`ab|a`, o)
		s.Feed([]byte("xa"))
		same := *s
		tryClosed(t, "a copy", &same)
		if s.Kept() != 1 {
			t.Errorf("P7: a Stream is changed by calls on a copy: %d bytes", s.Kept())
		}
		if l, e := s.Close(); e != api.OK || tell(l) != `1-2"a"` {
			t.Errorf("P7: Close: %s, %d", tell(l), e)
		}
		tryClosed(t, "closed", s)
	}
}

// TestStreamPanic breaks what is inside: each call panics there.
func TestStreamPanic(t *testing.T) {
	for _, call := range []func(*Stream) bool{
		func(s *Stream) bool { l, e := s.Feed([]byte("a")); return len(l) == 0 && e == api.ErrClosed },
		func(s *Stream) bool { l, e := s.Close(); return len(l) == 0 && e == api.ErrClosed },
		func(s *Stream) bool { return s.States() == 0 },
	} {
		s := &Stream{flow: new(flow.Flow)}
		s.self = s
		if !call(s) || s.Kept() != 0 {
			t.Errorf("P1: a panic is not told as ErrClosed, or the Stream goes on behind it")
		}
		tryClosed(t, "broken", s)
	}
}

// TestStreamOwns holds that a Stream neither keeps nor changes what it is fed, nor what is behind it: all of it is written over behind each Feed, and must stay so.
func TestStreamOwns(t *testing.T) {
	for _, o := range engines {
		for _, first := range []string{"a", "xa", "ab", "xab", "x", ""} {
			s, _ := Open(`(a)b+|xx`, o)
			var all []api.Event
			var fed [][]byte
			for _, part := range []string{first, "", "ab", "b", "", "bx"} {
				memory := []byte(part + "bbbbb")
				events, _ := s.Feed(memory[:len(part)])
				all = append(all, events...)
				if string(memory) != part+"bbbbb" {
					t.Errorf("P2: what was fed was written into: %q", memory)
				}
				copy(memory, "zzzzzzzz")
				fed = append(fed, memory)
			}
			events, _ := s.Close()
			if want, _ := Find(`(a)b+|xx`, first+"abbbx"); tell(append(all, events...)) != tell(want) {
				t.Errorf("P2: what was fed is kept: %s, want %s", tell(append(all, events...)), tell(want))
			}
			for _, memory := range fed {
				if strings.Trim(string(memory), "z") != "" {
					t.Errorf("P2: what was fed was written into later: %q", memory)
				}
			}
		}
	}
}

// TestStreamAnswersAreNewMemory writes into all of an answer, spare room too.
func TestStreamAnswersAreNewMemory(t *testing.T) {
	for _, o := range engines {
		s, _ := Open(`(a)(b)?|x+y|(x)`, o)
		other, _ := Open(`(a)(b)?|x+y|(x)`, o)
		want := ""
		for i, part := range []string{"abaab", "1", "ab" + times(60, "x"), "1", "ab1"} {
			l, _ := s.Feed([]byte(part))
			m, _ := other.Feed([]byte(part))
			if want = tell(m); tell(l) != want {
				t.Errorf("P2: part %d: %s, want %s", i, tell(l), want)
			}
			for j := range l {
				for k := range l[j].Groups[:cap(l[j].Groups)] {
					l[j].Groups[:cap(l[j].Groups)][k] = 1000 + j
				}
			}
			for j := range l {
				if slices.ContainsFunc(l[j].Groups, func(n int) bool { return n != 1000+j }) {
					t.Errorf("P2: event %d of part %d shares memory with another", j, i)
				}
			}
			for j := range l[:cap(l)] {
				l[:cap(l)][j] = api.Event{Start: 77, Text: "spoilt"}
			}
		}
	}
}

// TestStreamsAreApart feeds two Streams of one pattern in turn.
func TestStreamsAreApart(t *testing.T) {
	for _, o := range engines {
		a, _ := Open(`ab+`, o)
		b, _ := Open(`ab+`, o)
		a.Feed([]byte("a"))
		b.Feed([]byte("xxb"))
		a.Feed([]byte("b"))
		l, _ := b.Close()
		m, _ := a.Feed([]byte("."))
		if len(l) != 0 || tell(m) != `0-2"ab"` {
			t.Errorf("P2: %s and %s", tell(l), tell(m))
		}
	}
}

// TestStreamIsFast gives, byte by byte, texts of which nearly all must be kept, and patterns of which many matches become certain at once.
func TestStreamIsFast(t *testing.T) {
	const length = 10000
	for _, c := range []struct {
		pattern string
		events  int
	}{
		{`x*y|x`, length}, {`(x*y|x)`, length}, {`x(?:.*z)?`, length}, {`(?:x*)*y`, 0}, {`(?:x?){20}x{20}y`, 0}, {`(?:(?:x+)+)+y`, 0}, {`(?:x{1,20}){1,20}y`, 0}, {`((?:.{20}){10}y|x)`, length}, {`x.*y`, 0}, {`(?:x|(x))*?y|(x)`, length},
	} {
		for _, o := range engines {
			for _, last := range []string{"", "\n"} {
				l := stream(t, c.pattern, o, cutAt(times(length, "x")+last, -1))
				if len(l.events) != c.events {
					t.Errorf("P7: %q, %+v: %d events, want %d", c.pattern, o, len(l.events), c.events)
				}
			}
		}
	}
}
