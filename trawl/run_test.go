package trawl

import (
	"fmt"
	"math"
	"slices"
	"strings"
	"testing"

	"trawl/api"
	"trawl/flow"
)

// piecesOf makes pieces of texts with a kind behind each: `ab:0 c:1`. A piece of kind 2 has the code 7.
func piecesOf(text string) []api.Piece {
	var pieces []api.Piece
	for _, one := range strings.Fields(text) {
		data, kind, _ := strings.Cut(one, ":")
		p := api.Piece{Data: data}
		fmt.Sscan(kind, &p.Kind)
		if p.Kind == 2 {
			p.Code = 7
		}
		pieces = append(pieces, p)
	}
	return pieces
}

type runCase struct {
	pattern, pieces string
	most            int
	want            string
	read, code      int
	e               api.Errno
}

func tryRuns(t *testing.T, window int, cases []runCase) {
	t.Helper()
	for _, c := range cases {
		for _, o := range engines {
			x, e := Run(c.pattern, withWindow(o, window), piecesOf(c.pieces), c.most)
			if e != c.e || tell(x.Events) != c.want || x.Code != c.code || x.Read != c.read && c.read >= 0 {
				t.Errorf("P11: Run(%q, %+v, %s, %d) = %s, Read %d, Code %d, %d, want %s, %d, %d, %d", c.pattern, o, c.pieces, c.most, tell(x.Events), x.Read, x.Code, e, c.want, c.read, c.code, c.e)
			}
		}
	}
}

func TestRunExamples(t *testing.T) {
	tryRuns(t, 0, []runCase{
		{`a`, "ba:0 a:1", -1, `1-2"a" 2-3"a"`, 2, 0, api.OK}, {`a`, "ba:0 a:1", 1, `1-2"a"`, -1, 0, api.ErrStop}, {`b`, "a:2", -1, ``, 1, 7, api.ErrSource},
	})
}

func TestRunToTheEnd(t *testing.T) {
	tryRuns(t, 0, []runCase{
		{`a`, "", -1, ``, 0, 0, api.OK}, {``, "", -1, `0-0""`, 0, 0, api.OK}, {`^$`, ":0 :0", -1, `0-0""`, 2, 0, api.OK}, {`a`, "a:0", -1, `0-1"a"`, 1, 0, api.OK}, {`a`, "a:1", -1, `0-1"a"`, 1, 0, api.OK}, {`a`, "a:1 a:0 a:2", -1, `0-1"a"`, 1, 0, api.OK}, {`a`, ":1 a:0", -1, ``, 1, 0, api.OK},
		{`(a)b+`, "xa:0 b:0 b:0", -1, `1-4[1,2]"abb"`, 3, 0, api.OK}, {`a$`, "a:0 a:1 a:0", -1, `1-2"a"`, 2, 0, api.OK}, {`a`, "a:3 a:-1 a:9 a:0", -1, `0-1"a" 1-2"a" 2-3"a" 3-4"a"`, 4, 0, api.OK}, {`é`, "\xc3:0 \xa9:0", -1, `0-2"é"`, 2, 0, api.OK},
	})
}

func TestRunStops(t *testing.T) {
	tryRuns(t, 0, []runCase{
		{`a`, "", 0, ``, 0, 0, api.ErrStop}, {``, "a:0", 0, ``, 0, 0, api.ErrStop}, {`a`, "a:2", 0, ``, 0, 0, api.ErrStop}, {`a`, "aaa:0 b:0", 2, `0-1"a" 1-2"a"`, -1, 0, api.ErrStop}, {`a`, "aaa:0 b12345:2", 3, `0-1"a" 1-2"a" 2-3"a"`, -1, 0, api.ErrStop}, {`a`, "aaa:0 b12345:0 a:0", 4, `0-1"a" 1-2"a" 2-3"a" 9-10"a"`, 3, 0, api.ErrStop}, {`a`, "aaa:0", 4, `0-1"a" 1-2"a" 2-3"a"`, 1, 0, api.OK},
		{``, "", 1, `0-0""`, 0, 0, api.ErrStop}, {``, "", 2, `0-0""`, 0, 0, api.OK}, {`a$`, "a:0", 1, `0-1"a"`, 1, 0, api.ErrStop}, {`x*y|x`, "xxxx:0", 3, `0-1"x" 1-2"x" 2-3"x"`, 1, 0, api.ErrStop},
		{`a`, "aaa:0", math.MaxInt, `0-1"a" 1-2"a" 2-3"a"`, 1, 0, api.OK}, {`a`, "aaa:0", math.MinInt, `0-1"a" 1-2"a" 2-3"a"`, 1, 0, api.OK},
	})
}

// TestRunBreaks gives sources that break: what only the end makes certain is not told.
func TestRunBreaks(t *testing.T) {
	tryRuns(t, 0, []runCase{
		{`a`, "a12345:2 a:0", -1, `0-1"a"`, 1, 7, api.ErrSource}, {`a`, "a12345:0 a12345:2", -1, `0-1"a" 6-7"a"`, 2, 7, api.ErrSource}, {`a`, "a12345:0 a12345:2", 3, `0-1"a" 6-7"a"`, 2, 7, api.ErrSource}, {`a$`, "a:2", -1, ``, 1, 7, api.ErrSource}, {`a+`, "aaa:2", -1, ``, 1, 7, api.ErrSource}, {`a`, ":2", -1, ``, 1, 7, api.ErrSource}, {`$`, ":2", 1, ``, 1, 7, api.ErrSource}, {`a`, "b:1 a:2", -1, ``, 1, 0, api.OK},
	})
	for _, code := range []int{math.MinInt, -1, 0, math.MaxInt} {
		if x, e := Run(`a`, engines[0], []api.Piece{{Data: "b", Kind: 2, Code: code}}, -1); e != api.ErrSource || x.Code != code || x.Read != 1 {
			t.Errorf("P11: with Code %d: %+v, %d", code, x, e)
		}
	}
	if x, e := Run(`a`, engines[0], []api.Piece{{Data: "b", Code: 5}, {Kind: 1, Code: 6}, {Kind: 2, Code: 8}}, -1); e != api.OK || x.Code != 0 || x.Read != 2 {
		t.Errorf("P11: the code of a source that did not break is told: %+v, %d", x, e)
	}
}

func TestRunWindow(t *testing.T) {
	tryRuns(t, 2, []runCase{
		{`a.*b`, "aabb:0 b:0", -1, ``, 1, 0, api.ErrWindow}, {`a.*b`, "ax:0 x:0 b:0", -1, ``, 2, 0, api.ErrWindow}, {`a.*b`, "ax:0 x:1", -1, ``, 2, 0, api.ErrWindow}, {`a.*b`, "ab:0", -1, `0-2"ab"`, 1, 0, api.OK}, {`a.*b|c`, "c12345:0 c12345:0 axxx:0 c:0", -1, `0-1"c" 6-7"c"`, 3, 0, api.ErrWindow}, {`a.*b|c`, "c12345:0 axxx:0", 2, `0-1"c"`, 2, 0, api.ErrWindow}, {`a.*b|c`, "c12345:0 axxx:0", 1, `0-1"c"`, -1, 0, api.ErrStop}, {`a.*b`, "axxx:0", 0, ``, 0, 0, api.ErrStop}, {`a`, "ba:0 bbbbb:0 ba:0", -1, `1-2"a" 8-9"a"`, 3, 0, api.OK},
	})
}

// TestRunErrors holds that an error of Open is told ahead of all others, with an empty Tale.
func TestRunErrors(t *testing.T) {
	pieces := piecesOf("aaaa:0 a:2")
	for _, c := range []struct {
		pattern string
		o       api.Options
		e       api.Errno
	}{
		{times(301, "a"), engines[0], api.ErrLong}, {"\xff", engines[0], api.ErrRune}, {`(`, engines[0], api.ErrForm}, {`a{21}`, engines[0], api.ErrRepeat}, {`[b-a]`, engines[0], api.ErrClass}, {`(?<a>)(?<a>)`, engines[0], api.ErrName}, {`((a{20}){20}){3}`, engines[0], api.ErrBig},
		{`a`, api.Options{}, api.ErrOptions}, {`a`, api.Options{Engine: 3, Cache: 2}, api.ErrOptions}, {`a`, api.Options{Cache: 1001}, api.ErrOptions}, {`a`, api.Options{Cache: 2, Window: -1}, api.ErrOptions}, {`a`, api.Options{Cache: 2, Window: 1000001}, api.ErrOptions}, {`(`, api.Options{}, api.ErrForm},
	} {
		for _, most := range []int{-1, 0, 1} {
			if x, e := Run(c.pattern, c.o, pieces, most); e != c.e || len(x.Events) != 0 || x.Read != 0 || x.Code != 0 {
				t.Errorf("P1, P11: Run(%.60q, %+v, .., %d) = %+v, %d, want nothing, %d", c.pattern, c.o, most, x, e, c.e)
			}
		}
	}
}

// compareRun holds a Run without a Window against the document: with the end all events are told, with a break those at least whose time has come.
func compareRun(t *testing.T, pattern string, o api.Options, pieces []api.Piece, most int) {
	t.Helper()
	text, last := "", api.Piece{Kind: 1}
	read := 0
	for _, p := range pieces {
		text, read = text+p.Data, read+1
		if p.Kind == 1 || p.Kind == 2 {
			last = p
			break
		}
	}
	events, ok := wantEvents(pattern, text)
	if !ok {
		return
	}
	least, code, want := len(events), 0, api.OK
	if last.Kind == 2 {
		least, code, want = 0, last.Code, api.ErrSource
		for _, time := range newOutline(pattern, text, events).times() {
			if time+4 <= len(text) {
				least++
			}
		}
	}
	x, e := Run(pattern, o, pieces, most)
	n := len(x.Events)
	right := e == want && n >= least && x.Read == read && x.Code == code && (most < 0 || n < most)
	if e == api.ErrStop {
		right = most >= 0 && n == most && x.Code == 0 && x.Read <= read && (most > 0 || x.Read == 0)
	}
	if !right || n > len(events) || tell(x.Events) != tell(events[:n]) {
		t.Errorf("P11: Run(%q, %+v, %#v, %d) = %s, Read %d, Code %d, %d; the events are %s, %d of them in time", pattern, o, pieces, most, tell(x.Events), x.Read, x.Code, e, tell(events), least)
	}
}

func TestRunRandom(t *testing.T) {
	c := chooser(41)
	letters := []string{"a", "a", "ab", "b", "b", "A", "é", " ", "\n", "", "\xc3", "\xa9", "a-12345", "\xf0\x9f"}
	for range 10000 {
		var pieces []api.Piece
		for range c.below(6) {
			p := api.Piece{Data: c.of(letters) + c.of(letters), Code: c.below(9) - 4}
			if c.below(3) == 0 {
				p.Kind = c.below(5) - 1
			}
			pieces = append(pieces, p)
		}
		pattern := randomAlt(&c, 3)
		if e, _ := Check(pattern); e == api.OK && !t.Failed() {
			compareRun(t, pattern, engines[c.below(len(engines))], pieces, c.below(7)-2)
		}
	}
}

// TestRunOwns holds that the pieces, and what stands behind them, stay as they are, and that answers are new memory.
func TestRunOwns(t *testing.T) {
	all := piecesOf("ab:0 aab:0 a:0 z:5 z:5 z:5")
	was := slices.Clone(all)
	for _, o := range engines {
		for _, most := range []int{-1, 1, 2, 3} {
			x, _ := Run(`(a)(b)?`, o, all[:3], most)
			want := tell(x.Events)
			if !slices.Equal(all, was) {
				t.Fatalf("P2: the pieces were written into: %#v", all)
			}
			for i := range x.Events {
				groups := x.Events[i].Groups
				for j := range groups[:cap(groups)] {
					groups[:cap(groups)][j] = 1000 + i
				}
			}
			for i := range x.Events {
				if slices.ContainsFunc(x.Events[i].Groups, func(n int) bool { return n != 1000+i }) {
					t.Errorf("P2: event %d shares memory with another", i)
				}
			}
			for i := range x.Events[:cap(x.Events)] {
				x.Events[:cap(x.Events)][i] = api.Event{Text: "spoilt"}
			}
			if again, _ := Run(`(a)(b)?`, o, all[:3], most); tell(again.Events) != want {
				t.Errorf("P2: a second Run tells %s, want %s", tell(again.Events), want)
			}
		}
	}
}

// TestSource holds that a source that was given back holds nothing, and gives nothing more.
func TestSource(t *testing.T) {
	from := &source{pieces: piecesOf("a:0 b:0 c:0")}
	if a, b := from.next(), from.next(); a.Data != "a" || b.Data != "b" {
		t.Errorf("P11: the pieces %+v, %+v were read", a, b)
	}
	if n := from.giveBack(); n != 2 || from.pieces != nil {
		t.Errorf("P11: %d pieces were read, %+v are held", n, from.pieces)
	}
	if p := from.next(); p != (api.Piece{Kind: 1}) {
		t.Errorf("P11: %+v was read of a source that was given back", p)
	}
}

// TestFollowBroken gives a Stream that panics inside: what it tells ends the run.
func TestFollowBroken(t *testing.T) {
	s := &Stream{flow: new(flow.Flow)}
	s.self = s
	from := &source{pieces: piecesOf("a:0 b:0 c:0")}
	told := telling{most: -1}
	if e := told.follow(s, from); e != api.ErrClosed || from.read != 1 || len(told.tale.Events) != 0 {
		t.Errorf("P1: %d, %d pieces read, %+v", e, from.read, told.tale)
	}
}

// TestRunIsFast gives many pieces, and many events.
func TestRunIsFast(t *testing.T) {
	pieces := slices.Repeat([]api.Piece{{Data: "x"}, {}}, 100000)
	for _, o := range engines {
		for _, c := range []struct {
			pattern string
			events  int
		}{{`x`, 100000}, {`x*y|x`, 100000}, {`x*y`, 0}} {
			if x, e := Run(c.pattern, o, pieces, -1); e != api.OK || len(x.Events) != c.events || x.Read != len(pieces) {
				t.Errorf("P11: %q, %+v: %d events, Read %d, %d", c.pattern, o, len(x.Events), x.Read, e)
			}
		}
	}
}
