package trawl

import (
	"strings"

	"trawl/api"
)

// A second way to what Find answers: the tries of a pattern, gone one by one as the document tells them. It reads patterns by the tokens of the second reader, takes as long as there are ways, and so does for short texts alone.

// part is a piece of a pattern.
type part struct {
	sort      string // "atom", "bracket", "seq", "alt" or "times"
	text      string // of an atom
	fold      bool   // of an atom: it stands within (?i:..)
	group     int    // of a bracket: its number, or 0
	parts     []part
	low, high int // of times; high is -1 if there is none
	lazy      bool
}

type treeReader struct {
	tokens []token
	groups int
}

func (r *treeReader) sees(sort string) bool {
	return len(r.tokens) > 0 && r.tokens[0].sort == sort
}

func (r *treeReader) take() token {
	t := r.tokens[0]
	r.tokens = r.tokens[1:]
	return t
}

func (r *treeReader) alt(fold bool) part {
	all := part{sort: "alt", parts: []part{r.seq(fold)}}
	for r.sees("bar") {
		r.take()
		all.parts = append(all.parts, r.seq(fold))
	}
	return all
}

func (r *treeReader) seq(fold bool) part {
	all := part{sort: "seq"}
	for len(r.tokens) > 0 && !r.sees("bar") && !r.sees("close") {
		one := r.atom(fold)
		if r.sees("times") {
			one = timesOf(r.take(), one)
		}
		all.parts = append(all.parts, one)
	}
	return all
}

func (r *treeReader) atom(fold bool) part {
	t := r.take()
	if t.sort != "open" {
		return part{sort: "atom", text: t.parts[t.sort], fold: fold}
	}
	one := part{sort: "bracket"}
	switch t.parts["open"] {
	case "(?:":
	case "(?i:":
		fold = true
	default:
		r.groups++
		one.group = r.groups
	}
	one.parts = []part{r.alt(fold)}
	r.take()
	return one
}

func timesOf(t token, e part) part {
	all := part{sort: "times", parts: []part{e}, high: -1}
	sign := t.parts["times"]
	switch {
	case sign[0] == '+':
		all.low = 1
	case sign[0] == '?':
		all.high = 1
	case sign[0] == '{':
		all.low, all.high = number(t.parts["low"]), number(t.parts["low"])
		if t.parts["comma"] != "" {
			all.high = -1
		}
		if t.parts["high"] != "" {
			all.high = number(t.parts["high"])
		}
	}
	all.lazy = len(sign) > 1 && strings.HasSuffix(sign, "?")
	return all
}

// looker goes tries over the runes of a text, counted by their numbers, up to so many steps.
type looker struct {
	runes  []rune
	places []int // of the runes, and of the text's end
	steps  int
}

// then is what is done with a try; it tells whether no more are wanted.
type then func(at int, groups []int) bool

func (l *looker) tries(p part, at int, groups []int, do then) bool {
	l.steps--
	if l.steps < 0 {
		return true
	}
	switch p.sort {
	case "atom":
		if end, ok := l.atom(p, at); ok {
			return do(end, groups)
		}
		return false
	case "bracket":
		return l.tries(p.parts[0], at, groups, func(end int, groups []int) bool {
			if p.group > 0 {
				groups = append([]int{}, groups...)
				groups[2*p.group-2], groups[2*p.group-1] = l.places[at], l.places[end]
			}
			return do(end, groups)
		})
	case "seq":
		if len(p.parts) == 0 {
			return do(at, groups)
		}
		return l.tries(p.parts[0], at, groups, func(end int, groups []int) bool {
			return l.tries(part{sort: "seq", parts: p.parts[1:]}, end, groups, do)
		})
	case "alt":
		for _, one := range p.parts {
			if l.tries(one, at, groups, do) {
				return true
			}
		}
		return false
	}
	return l.times(p, at, groups, do)
}

func (l *looker) times(p part, at int, groups []int, do then) bool {
	e := p.parts[0]
	rest := p
	switch {
	case p.low > 0:
		rest.low, rest.high = p.low-1, max(p.high-1, -1)
		return l.tries(e, at, groups, func(end int, groups []int) bool { return l.tries(rest, end, groups, do) })
	case p.high == 0:
		return do(at, groups)
	}
	endless := p.high == -1
	rest.high = max(p.high-1, -1)
	more := func() bool {
		return l.tries(e, at, groups, func(end int, groups []int) bool {
			return (!endless || end > at) && l.tries(rest, end, groups, do)
		})
	}
	if p.lazy {
		return do(at, groups) || more()
	}
	return more() || do(at, groups)
}

// atom tells the end of an atom's one try.
func (l *looker) atom(p part, at int) (int, bool) {
	word := (at > 0 && isWordRune(l.runes[at-1])) != (at < len(l.runes) && isWordRune(l.runes[at]))
	switch p.text {
	case "^":
		return at, at == 0
	case "$":
		return at, at == len(l.runes)
	case `\b`:
		return at, word
	case `\B`:
		return at, !word
	}
	return at + 1, at < len(l.runes) && atomHas(p.text, p.fold, l.runes[at])
}

func isWordRune(r rune) bool {
	return strings.ContainsRune("abcdefghijklmnopqrstuvwxyzABCDEFGHIJKLMNOPQRSTUVWXYZ0123456789_", r)
}

func atomHas(atom string, fold bool, r rune) bool {
	if atom[0] == '[' {
		return classHas(atom[1:len(atom)-1], fold, r)
	}
	one := func(r rune) bool { return itemHas(atom, r) }
	if atom == "." {
		one = func(r rune) bool { return r != 10 }
	}
	return one(r) || fold && one(otherKind(r))
}

func classHas(items string, fold bool, r rune) bool {
	rest := strings.TrimPrefix(items, "^")
	has := false
	for len(rest) > 0 {
		item := itemForm.FindStringSubmatch(rest)
		one := func(r rune) bool { return itemHas(item[0], r) }
		if item[2] != "" {
			one = func(r rune) bool { return oneRune(item[1]) <= r && r <= oneRune(item[2]) }
		}
		has = has || one(r) || fold && one(otherKind(r))
		rest = rest[len(item[0]):]
	}
	return has != strings.HasPrefix(items, "^")
}

// itemHas is of one rune, escaped or not, and of the letters of sets.
func itemHas(item string, r rune) bool {
	switch item {
	case `\d`:
		return strings.ContainsRune("0123456789", r)
	case `\D`:
		return !itemHas(`\d`, r)
	case `\w`:
		return isWordRune(r)
	case `\W`:
		return !isWordRune(r)
	case `\s`:
		return r == 9 || r == 10 || r == 13 || r == 32
	case `\S`:
		return !itemHas(`\s`, r)
	}
	return oneRune(item) == r
}

func otherKind(r rune) rune {
	switch {
	case 'a' <= r && r <= 'z':
		return r - 'a' + 'A'
	case 'A' <= r && r <= 'Z':
		return r - 'A' + 'a'
	}
	return r
}

// wantEvents tells the events of a text; ok is false if that took too many steps.
func wantEvents(pattern, text string) (events []api.Event, ok bool) {
	tokens, _, _ := cut(pattern)
	reader := &treeReader{tokens: tokens}
	whole := reader.alt(false)
	l := &looker{steps: 200000}
	for place, r := range text {
		l.runes = append(l.runes, r)
		l.places = append(l.places, place)
	}
	l.places = append(l.places, len(text))
	none := []int{}
	for range 2 * reader.groups {
		none = append(none, -1)
	}
	for p := 0; p < len(l.places); {
		end, found := 0, []int(nil)
		if !l.tries(whole, p, none, func(at int, groups []int) bool { end, found = at, groups; return true }) {
			p++
			continue
		}
		if l.steps < 0 {
			return nil, false
		}
		from, to := l.places[p], l.places[end]
		if end > p || len(events) == 0 || events[len(events)-1].End != from {
			events = append(events, api.Event{Start: from, End: to, Groups: found, Text: text[from:to]})
		}
		p = max(end, p)
		if from == to {
			p++
		}
	}
	return events, true
}
