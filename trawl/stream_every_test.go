package trawl

import (
	"fmt"
	"strings"
	"testing"

	"trawl/api"
)

// trail is what a Stream answered, Feed by Feed, and at last Close.
type trail struct {
	events []api.Event
	told   []int // how many events in all, behind each Feed
	kept   []int
	states []int
}

func stream(t *testing.T, pattern string, o api.Options, parts []string) trail {
	t.Helper()
	s, e := Open(pattern, o)
	if e != api.OK {
		t.Fatalf("P6: Open(%q, %+v): %d", pattern, o, e)
	}
	var l trail
	for _, part := range parts {
		events, e := s.Feed([]byte(part))
		if e != api.OK {
			t.Fatalf("P7: %q, %+v: Feed(%.60q): %d", pattern, o, part, e)
		}
		l.events = append(l.events, events...)
		l.told = append(l.told, len(l.events))
		l.kept = append(l.kept, s.Kept())
		l.states = append(l.states, s.States())
	}
	events, e := s.Close()
	if e != api.OK || s.Kept() != 0 || s.States() != 0 {
		t.Fatalf("P7, P9: %q, %+v: Close: %d, then %d bytes and %d states", pattern, o, e, s.Kept(), s.States())
	}
	l.events = append(l.events, events...)
	return l
}

var engines = []api.Options{{Engine: 0, Cache: 30}, {Engine: 1, Cache: 2}, {Engine: 2, Cache: 2}, {Engine: 2, Cache: 3}, {Engine: 2, Cache: 1000}}

// tryTrail holds a trail against the events, their times, and what may be kept.
func tryTrail(t *testing.T, about string, o api.Options, l trail, parts []string, line *outline, times []int) {
	t.Helper()
	if tell(l.events) != tell(line.events) {
		t.Errorf("P7: %s: %s, want %s", about, tell(l.events), tell(line.events))
		return
	}
	taken := 0
	for i, part := range parts {
		taken += len(part)
		for n, time := range times {
			if taken >= time+4 && l.told[i] <= n {
				t.Errorf("P8: %s: event %d has not been told behind %d bytes, its time being %d", about, n, taken, time)
			}
		}
		if least, most := line.keeps(taken, l.told[i]); l.kept[i] < least || l.kept[i] > most {
			t.Errorf("P9: %s: behind %d bytes %d are kept, want %d to %d", about, taken, l.kept[i], least, most)
		}
		n := l.states[i]
		if n > o.Cache || n < 0 || o.Engine == 1 && n > 0 || o.Engine == 2 && taken >= 4 && n == 0 {
			t.Errorf("P9: %s: behind %d bytes %d states are kept", about, taken, n)
		}
	}
}

// compareStream feeds a text byte by byte to all engines, and holds what they answer against the document; then it feeds it in other parts, to all engines in turn. It tells whether it could.
func compareStream(t *testing.T, pattern, text string, cuts []int) bool {
	t.Helper()
	events, ok := wantEvents(pattern, text)
	if !ok {
		return false
	}
	line := newOutline(pattern, text, events)
	times := line.times()
	bytes := cutAt(text, -1)
	var first trail
	for i, o := range engines {
		about := fmt.Sprintf("%q, %+v, in %q byte by byte", pattern, o, text)
		l := stream(t, pattern, o, bytes)
		tryTrail(t, about, o, l, bytes, line, times)
		if i == 0 {
			first = l
		} else if fmt.Sprint(l.told) != fmt.Sprint(first.told) {
			t.Errorf("P6: %s: after each Feed %v events had been told, with another engine %v", about, l.told, first.told)
		}
	}
	for i, cut := range cuts {
		o, parts := engines[i%len(engines)], cutAt(text, cut)
		about := fmt.Sprintf("%q, %+v, in the parts %q", pattern, o, parts)
		l := stream(t, pattern, o, parts)
		tryTrail(t, about, o, l, parts, line, times)
		taken := 0
		for i, part := range parts {
			if taken += len(part); taken > 0 && l.told[i] != first.told[taken-1] {
				t.Errorf("P7: %s: %d events were told with the part %d, byte by byte %d", about, l.told[i], i, first.told[taken-1])
			}
		}
	}
	return true
}

func TestStreamEveryShortPattern(t *testing.T) {
	texts := []string{"", "a", "ab", "bab", "aaaa", "abaab", "a\xc3b", "abé\xf0\x9f"}
	eachPattern("", []string{"a", "b", "|", "(", ")", "*", "??", "{2}", "$", `\b`, ".", "[^\x00-\U0010ffff]"}, 4, func(pattern string) {
		for _, text := range texts {
			if !t.Failed() && !compareStream(t, pattern, text, []int{0, 5}) {
				t.Errorf("%q in %q takes the second way too long", pattern, text)
			}
		}
	})
}

// TestStreamEveryCut goes through all ways to cut some texts.
func TestStreamEveryCut(t *testing.T) {
	for _, c := range []struct{ pattern, text string }{
		{`ab+`, "xabbcab"}, {`(a|ab)(c|bcd)?`, "abcdabc"}, {`\b\w+\b`, "ab é-a"}, {`a(.*z)?|x`, "axxa\nxz"}, {`x*y|x`, "xxxyxxz"}, {`(x*y|(x))*?`, "xxxyxx"}, {`.`, "é😀\xf0\x9f"}, {`[^a]{2}|a$`, "\xf0\x9f\x98a\xe2a"}, {``, "aé\xc3"}, {`^a|\Ba|b$`, "aaabb"}, {"\ufffd", "\xf0\x9fé\xed\xa0"}, {`(a{1,2}){2}|a`, "aaaaaaa"},
	} {
		var cuts []int
		for bits := range 1 << max(len(c.text)-1, 0) {
			cuts = append(cuts, bits)
		}
		compareStream(t, c.pattern, c.text, cuts)
	}
}

func TestStreamRandom(t *testing.T) {
	c := chooser(3)
	letters := []string{"a", "a", "b", "b", "A", "B", "é", " ", "\n", "1", "\xff", "\xc3", "\xa9", "\ufffd", "\xf0\x9f\x98", "\xe2\x82"}
	tried, skipped := 0, 0
	for tried < 10000 && !t.Failed() {
		pattern, text := randomAlt(&c, 4), ""
		for range c.below(9) {
			text += c.of(letters)
		}
		if e, _ := Check(pattern); e == api.OK && compareStream(t, pattern, text, []int{c.below(1 << 15), c.below(1 << 15)}) {
			tried++
		} else {
			skipped++
		}
	}
	if skipped > tried/10 {
		t.Errorf("%d of %d were passed over", skipped, tried+skipped)
	}
}

// TestStreamLongTexts holds Streams against Find, in texts of which many bytes have to be kept, and many more are gone over again.
func TestStreamLongTexts(t *testing.T) {
	c := chooser(11)
	var texts []string
	for _, letters := range [][]string{{"x"}, {"x", "x", "x", "x", "x", "x", "x", "x", "x", "x", "x", "x", "y"}, {"a", "b", "é", "😀", "\xff", "\xf0\x9f"}, {"a", "b", " ", "\n", "x"}, {times(50, "x"), times(40, "a"), "z", "y", "\n", times(300, "a") + "b"}} {
		var text strings.Builder
		for text.Len() < 6000 {
			text.WriteString(c.of(letters))
		}
		texts = append(texts, text.String())
	}
	for _, p := range []string{``, `a`, `x*y|x`, `(x*y|x)`, `(x)*y|(x)`, `a.*b|(x)`, `(?:.{20}){10}y|a|x`, `(.+)$`, `^(.*)`, `\b\w+\b`, `\b`, `(?:a|b)*?é`, `(\w+)\s(\w+)`, "\ufffd", `\W\w`, `x(?:[^é]*é)?`, `x{1,20}z|x|a`, `(?:a*?b|x*?z|[ax])`, `(a|x)+?b|x|a*`} {
		for i, text := range texts {
			want, _ := Find(p, text)
			for _, o := range engines {
				var parts []string
				for rest := text; len(rest) > 0; {
					n := min(len(rest), 1+c.below(1+c.below(600)))
					parts, rest = append(parts, rest[:n]), rest[n:]
				}
				if l := stream(t, p, o, parts); tell(l.events) != tell(want) {
					t.Errorf("P7: %q, %+v, text %d: %s, want %s", p, o, i, begin(tell(l.events)), begin(tell(want)))
				}
			}
		}
	}
}
