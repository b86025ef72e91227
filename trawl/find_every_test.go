package trawl

import (
	"fmt"
	"regexp"
	"strings"
	"testing"

	"trawl/api"
)

// chooser gives numbers by a fixed rule, the same each time.
type chooser uint32

func (c *chooser) below(n int) int {
	*c = *c*1664525 + 1013904223
	return int(*c>>16) % n
}

func (c *chooser) of(list []string) string {
	return list[c.below(len(list))]
}

// compareFind holds what Find answers against the tries, gone one by one; it tells whether it could.
func compareFind(t *testing.T, pattern, text string) bool {
	t.Helper()
	want, ok := wantEvents(pattern, text)
	if !ok {
		return false
	}
	if events, e := Find(pattern, text); e != api.OK || tell(events) != tell(want) {
		t.Errorf("P5: Find(%q, %q) = %s, %d, want %s", pattern, text, tell(events), e, tell(want))
	}
	return true
}

// allTexts tells all texts of at most so many pieces.
func allTexts(pieces []string, most int) []string {
	texts, last := []string{""}, []string{""}
	for range most {
		var longer []string
		for _, text := range last {
			for _, piece := range pieces {
				longer = append(longer, text+piece)
			}
		}
		texts, last = append(texts, longer...), longer
	}
	return texts
}

// eachPattern goes through all patterns of at most so many pieces that go on from a text.
func eachPattern(text string, pieces []string, more int, do func(pattern string)) {
	_, depth, ok := cut(text)
	if !ok || depth > more {
		return
	}
	if depth == 0 {
		do(text)
	}
	if more == 0 {
		return
	}
	for _, piece := range pieces {
		eachPattern(text+piece, pieces, more-1, do)
	}
}

func TestFindEveryShortPattern(t *testing.T) {
	texts := allTexts([]string{"a", "b"}, 3)
	pieces := []string{"a", "b", "|", "(", "(?:", ")", "*", "+?", "?", "??", "{2}", "{0,2}", "$", `\b`}
	eachPattern("", pieces, 4, func(pattern string) {
		for _, text := range texts {
			if !t.Failed() && !compareFind(t, pattern, text) {
				t.Errorf("%q in %q takes the second way too long", pattern, text)
			}
		}
	})
}

// TestFindEveryShortLoop goes deeper where it is hardest: repetitions whose part may take no rune.
func TestFindEveryShortLoop(t *testing.T) {
	texts := allTexts([]string{"a", "b"}, 3)
	eachPattern("(", []string{"a", "b", "|", "(", ")*", ")*?", ")?", "*"}, 5, func(pattern string) {
		for _, text := range texts {
			if !t.Failed() && !compareFind(t, pattern, text) {
				t.Errorf("%q in %q takes the second way too long", pattern, text)
			}
		}
	})
}

// randomAlt makes an alt; the deeper, the fewer brackets it has.
func randomAlt(c *chooser, depth int) string {
	atoms := []string{"a", "b", "é", ".", "^", "$", `\b`, `\B`, `\w`, `\W`, "[a-b]", "[^a]", "[^bé]", `\s`, "A", `[\dA-Z]`, "\ufffd", `\n`, `\d`, `\D`}
	brackets := []string{"(", "(", "(?:", "(?i:"}
	signs := []string{"", "", "", "*", "+", "?", "*?", "+?", "??", "{2}", "{0,2}", "{1,}?", "{0}", "{1,3}?"}
	text := ""
	for range c.below(4) {
		if c.below(5) == 0 {
			text += "|"
		}
		if c.below(6) < depth {
			text += c.of(brackets) + randomAlt(c, depth-1) + ")"
		} else {
			text += c.of(atoms)
		}
		text += c.of(signs)
	}
	return text
}

func TestFindRandom(t *testing.T) {
	c := chooser(1)
	letters := []string{"a", "a", "b", "b", "A", "B", "é", " ", "\n", "1", "\xff", "\xc3", "\xa9", "\ufffd"}
	tried, skipped := 0, 0
	for tried < 20000 && !t.Failed() {
		pattern, text := randomAlt(&c, 4), ""
		if e, _ := Check(pattern); e != api.OK {
			skipped++
			continue
		}
		for range c.below(8) {
			text += c.of(letters)
		}
		if compareFind(t, pattern, text) {
			tried++
		} else {
			skipped++
		}
	}
	if skipped > tried/10 {
		t.Errorf("%d of %d were passed over", skipped, tried+skipped)
	}
}

// TestFindLongTexts holds Find against Go's own matcher, over patterns of which both say the same, in texts of many thousand bytes.
func TestFindLongTexts(t *testing.T) {
	c := chooser(7)
	var texts []string
	for _, letters := range [][]string{{"a"}, {"a", "b"}, {"é", "a", "😀", "\xff", "\xf0\x9f"}, {"a", "b", " ", "\n", "x"}, {times(4094, "a"), "é", "b", "\xe2\x82", "😀"}} {
		var text strings.Builder
		for text.Len() < 13000 {
			text.WriteString(c.of(letters))
		}
		texts = append(texts, text.String())
	}
	for _, p := range []string{``, `a`, `a+`, `a*`, `a*?b`, `(a+)(b?)`, `(?:a|é)+`, `[^b]{20}`, `(?:[^b]{19}){20}`, `(.+)$`, `^(.*)`, `\b\w+\b`, `\b`, `.(.*?)b`, `(?:a|b)*?é`, `(\w+)\s(\w+)`, `é(.)`, "\ufffd", `\W\w`, `(?i:A)$`, `b(?:[^é]*é)?`} {
		for i, text := range texts {
			var want []api.Event
			for _, x := range regexp.MustCompile(p).FindAllStringSubmatchIndex(text, -1) {
				want = append(want, api.Event{Start: x[0], End: x[1], Groups: x[2:], Text: text[x[0]:x[1]]})
			}
			if events, e := Find(p, text); e != api.OK || tell(events) != tell(want) {
				t.Errorf("P5: Find(%q, text %d) = %s, %d, want %s", p, i, begin(tell(events)), e, begin(tell(want)))
			}
		}
	}
}

func begin(text string) string {
	return fmt.Sprintf("%.100s.. (%d bytes)", text, len(text))
}
