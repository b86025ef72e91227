package trawl

import (
	"fmt"
	"strings"
	"testing"

	"trawl/api"
)

// windowTrail is what a Stream with a Window answered: as a trail, up to the Feed with ErrWindow.
type windowTrail struct {
	trail
	over int // the number of the first Feed that answered ErrWindow, or -1
}

// streamWindow feeds a Stream with a Window, and holds that behind ErrWindow nothing else is answered up to Close, and that no bytes are kept.
func streamWindow(t *testing.T, pattern string, o api.Options, parts []string) windowTrail {
	t.Helper()
	s, e := Open(pattern, o)
	if e != api.OK {
		t.Fatalf("P6: Open(%q, %+v): %d", pattern, o, e)
	}
	l := windowTrail{over: -1}
	want, taken := api.OK, 0
	for i, part := range parts {
		events, e := s.Feed([]byte(part))
		if want == api.OK {
			taken += len(part)
		}
		if e == api.ErrWindow && want == api.OK {
			l.over, want = i, e
		}
		kept, states := s.Kept(), s.States()
		if e != want || kept > o.Window || e != api.OK && (len(events) > 0 || kept > 0) {
			t.Fatalf("P1, P9, P10: %q, %+v, Feed %d of %.60q: %s, %d, and %d bytes are kept", pattern, o, i, parts, begin(tell(events)), e, kept)
		}
		if states > o.Cache || o.Engine == 1 && states != 0 || o.Engine == 2 && taken >= 4 && states == 0 {
			t.Fatalf("P9: %q, %+v, Feed %d of %.60q: %d states", pattern, o, i, parts, states)
		}
		l.events = append(l.events, events...)
		l.told = append(l.told, len(l.events))
		l.kept = append(l.kept, kept)
	}
	events, e := s.Close()
	if e != want || want != api.OK && len(events) > 0 {
		t.Errorf("P10: %q, %+v, %.60q: Close: %s, %d, want %d", pattern, o, parts, begin(tell(events)), e, want)
	}
	l.events = append(l.events, events...)
	tryClosed(t, "closed, with a Window", s)
	return l
}

func withWindow(o api.Options, window int) api.Options {
	o.Window = window
	return o
}

// TestWindow gives cases in which no more may be kept than must be.
func TestWindow(t *testing.T) {
	for _, c := range []struct {
		pattern string
		window  int
		parts   string
		over    int
		want    string
	}{
		{`a.*b`, 2, "axx", 0, ``}, {`a.*b`, 2, "axx|b|\n|abc\n|", 0, ``}, {`a.*b`, 2, "a|x|x|b", 2, ``}, {`a.*b`, 2, "ab|\n|a||b|\n|ax|\nb", -1, `0-2"ab" 3-5"ab"`}, {`a.*b`, 3, "a|x|x", -1, ``}, {`a.*b`, 3, "a|x|x|x|b", 3, ``},
		{`a`, 1, times(100, "b") + "a", -1, `100-101"a"`}, {`a`, 1, "|a||a|", -1, `0-1"a" 1-2"a"`}, {`a+b`, 1, "aaaaab1234", -1, `0-6"aaaaab"`}, {`a+b`, 1, "aa|b1234", 0, ``}, {`a+b`, 5, "aaaaa|b1234", -1, `0-6"aaaaab"`}, {`(a)+?`, 1, times(300, "a"), -1, found(`(a)+?`, times(300, "a"))},
		{`ab|c.*d`, 3, "ab12345|ab12345c|xx|x", 3, `0-2"ab" 7-9"ab"`}, {`ab|c.*d`, 3, "ab12345|ab12345cxxx|\nab12345", 1, `0-2"ab"`}, {`ab|c.*d`, 4, "ab12345|ab12345cxxx|\nab12345", -1, `0-2"ab" 7-9"ab" 19-21"ab"`},
		{`😀`, 2, "\xf0|\x9f|\x98|\x80", 2, ``}, {`😀`, 3, "\xf0|\x9f|\x98|\x80", 3, ``}, {`😀`, 4, "\xf0|\x9f|\x98|\x80", -1, `0-4"😀"`}, {`a😀`, 3, "xa\xf0\x9f|\x98", 1, ``}, {`é`, 3, "\xc3|\xa9\xc3|\xa9", -1, `0-2"é" 2-4"é"`},
		{``, 1, "abc", -1, `0-0"" 1-1"" 2-2"" 3-3""`}, {`$`, 1, "abc|d", -1, `4-4""`}, {`a`, 1, "", -1, ``},
	} {
		for _, o := range engines {
			parts := strings.Split(c.parts, "|")
			if l := streamWindow(t, c.pattern, withWindow(o, c.window), parts); l.over != c.over || tell(l.events) != c.want {
				t.Errorf("P10: %q, %+v, Window %d, in the parts %.60q: ErrWindow with part %d, want %d; %s, want %s", c.pattern, o, c.window, parts, l.over, c.over, begin(tell(l.events)), begin(c.want))
			}
		}
	}
}

func found(pattern, text string) string {
	events, _ := Find(pattern, text)
	return tell(events)
}

// TestWindowGreatest fills the greatest Window to its last byte; and more than that, where none is set.
func TestWindowGreatest(t *testing.T) {
	parts := []string{"ba" + times(api.MaxWindow-2, "x"), "x", "b"}
	for _, o := range engines {
		if l := streamWindow(t, `a.*b`, withWindow(o, api.MaxWindow), parts); l.over != 2 || l.kept[1] != api.MaxWindow {
			t.Errorf("P10: %+v: ErrWindow with part %d, want 2; %v were kept", o, l.over, l.kept)
		}
		if l := stream(t, `a.*b`, o, parts); len(l.events) != 1 || l.events[0].End != api.MaxWindow+2 {
			t.Errorf("P10: %+v: without a Window: %d events", o, len(l.events))
		}
	}
}

// compareWindow holds a Stream with a Window against one without: ErrWindow comes with the first Feed behind which that one keeps more, and up to there both tell the same.
func compareWindow(t *testing.T, pattern, text string, o api.Options, parts []string) {
	t.Helper()
	events, ok := wantEvents(pattern, text)
	if !ok {
		return
	}
	line := newOutline(pattern, text, events)
	free := stream(t, pattern, withWindow(o, 0), parts)
	l := streamWindow(t, pattern, o, parts)
	about := fmt.Sprintf("%q, %+v, in the parts %q", pattern, o, parts)
	taken, told := 0, 0
	for i, part := range parts {
		taken += len(part)
		if i == l.over {
			if _, most := line.keeps(taken, told); most <= o.Window || free.kept[i] <= o.Window {
				t.Errorf("P10: %s: ErrWindow with part %d, where at most %d may be kept, and %d would be", about, i, most, free.kept[i])
			}
			if tell(l.events) != tell(events[:told]) {
				t.Errorf("P10: %s: ahead of ErrWindow were told %s, want %s", about, tell(l.events), tell(events[:told]))
			}
			return
		}
		if free.kept[i] > o.Window || l.kept[i] != free.kept[i] || l.told[i] != free.told[i] {
			t.Errorf("P10: %s: with part %d %d bytes are kept and %d events told, without a Window %d and %d", about, i, l.kept[i], l.told[i], free.kept[i], free.told[i])
		}
		told = l.told[i]
	}
	if tell(l.events) != tell(events) {
		t.Errorf("P7, P10: %s: %s, want %s", about, tell(l.events), tell(events))
	}
}

func TestWindowEveryShortPattern(t *testing.T) {
	texts := []string{"abaab", "aaaaaaa", "abé\xf0\x9f"}
	n := 0
	eachPattern("", []string{"a", "b", "|", "(", ")", "*", "??", "$", `\b`, "."}, 4, func(pattern string) {
		for _, text := range texts {
			for window := 1; window <= 3 && !t.Failed(); window++ {
				n++
				compareWindow(t, pattern, text, withWindow(engines[n%len(engines)], window), cutAt(text, n*7))
			}
		}
	})
}

func TestWindowRandom(t *testing.T) {
	c := chooser(29)
	letters := []string{"a", "a", "a", "b", "b", "A", "é", " ", "\n", "1", "\xff", "\xc3", "\xf0\x9f\x98"}
	for range 5000 {
		pattern, text := randomAlt(&c, 4), ""
		for range c.below(12) {
			text += c.of(letters)
		}
		if e, _ := Check(pattern); e == api.OK && !t.Failed() {
			o := withWindow(engines[c.below(len(engines))], 1+c.below(6))
			compareWindow(t, pattern, text, o, cutAt(text, c.below(1<<15)))
		}
	}
}
