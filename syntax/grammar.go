package syntax

import (
	"unicode"

	"trawl/api"
)

const (
	notPlain  = `\.^$|?*+()[{`
	notOne    = `\[]^-`
	itself    = `.^$|?*+()[]{}-/\` // what stands for itself behind a `\`
	control   = "ntr"
	someSet   = "dws"
	otherSet  = "DWS"
	textEdge  = "^$"
	wordEdge  = "bB"
	digits    = "0123456789"
	nameRunes = "abcdefghijklmnopqrstuvwxyz"
)

func (r *reader) whole() Node {
	n := r.alt()
	if r.see() != end {
		r.refuse()
	}
	return n
}

func (r *reader) alt() Node {
	parts := []Node{r.seq()}
	for r.take("|") {
		parts = append(parts, r.seq())
	}
	return Node{Kind: Choice, Parts: parts}
}

func (r *reader) seq() Node {
	var parts []Node
	for r.see() != end && !r.sees("|)") {
		parts = append(parts, r.repeated(r.atom()))
	}
	return Node{Kind: Sequence, Parts: parts}
}

func (r *reader) atom() Node {
	c := r.see()
	switch {
	case r.take("("):
		return r.bracket()
	case r.take("["):
		return r.class()
	case r.take(`\`):
		return r.escape()
	case r.take("."):
		return r.anyOf([]span{{'\n', '\n'}}, true)
	case r.take(textEdge):
		return Node{Kind: Border, Edge: edgeOf(c)}
	}
	c = r.needOther(notPlain)
	return r.anyOf([]span{{c, c}}, false)
}

// escape reads what is behind a `\` that stands in no class.
func (r *reader) escape() Node {
	c := r.see()
	switch {
	case r.take(wordEdge):
		return Node{Kind: Border, Edge: edgeOf(c)}
	case r.take(someSet):
		return r.anyOf(setOf(c), false)
	case r.take(otherSet):
		return r.anyOf(setOf(unicode.ToLower(c)), true)
	}
	c = r.escaped()
	return r.anyOf([]span{{c, c}}, false)
}

// anyOf is an atom of the runes in some spans, or of all others. What letters stand for comes ahead of what is left out: within `(?i:..)` the class `[^b]` has neither of b's kinds.
func (r *reader) anyOf(spans []span, others bool) Node {
	if r.fold {
		spans = bothKinds(spans)
	}
	set := newSet(spans)
	if others {
		set = set.others()
	}
	return Node{Kind: Runes, Set: set}
}

// bracket reads what is behind a `(`.
func (r *reader) bracket() Node {
	n := Node{Kind: Bracket}
	outside := r.fold
	switch {
	case !r.take("?"):
		n.Group = r.newGroup()
	case r.take("<"):
		n.Group = r.newGroup()
		r.name()
	default:
		r.fold = r.take("i") || outside
		r.need(":")
	}
	n.Parts = []Node{r.alt()}
	r.need(")")
	r.fold = outside
	return n
}

func (r *reader) newGroup() int {
	r.groups++
	return r.groups
}

// name reads the NAME of the newest group, and the `>` behind it.
func (r *reader) name() {
	first := r.next
	r.need(nameRunes)
	for r.next < first+api.MaxName && r.sees(nameRunes) {
		r.next++
	}
	name := string(r.runes[first:r.next])
	if _, had := r.names[name]; had {
		r.note(api.ErrName, r.places[first])
	} else {
		r.names[name] = r.groups
	}
	r.need(">")
}

// repeated reads the times of an atom, if it has one.
func (r *reader) repeated(atom Node) Node {
	n := Node{Kind: Repetition, Parts: []Node{atom}}
	switch place := r.place(); {
	case r.take("*"):
		n.Low, n.High = 0, Endless
	case r.take("+"):
		n.Low, n.High = 1, Endless
	case r.take("?"):
		n.Low, n.High = 0, 1
	case r.take("{"):
		n.Low, n.High = r.bounds()
		if n.Low > api.MaxRepeat || n.High > api.MaxRepeat || n.High != Endless && n.High < n.Low {
			r.note(api.ErrRepeat, place)
		}
	default:
		return atom
	}
	n.Lazy = r.take("?")
	return n
}

// bounds reads what is behind the `{` of a times.
func (r *reader) bounds() (low, high int) {
	low = r.number()
	high = low
	if r.take(",") {
		high = Endless
		if !r.sees("}") {
			high = r.number()
		}
	}
	r.need("}")
	return low, high
}

// number reads an N: behind a 0 no digit can stand.
func (r *reader) number() int {
	n := r.digit()
	if n > 0 && r.sees(digits) {
		n = 10*n + r.digit()
	}
	return n
}

func (r *reader) digit() int {
	c := r.see()
	if !r.take(digits) {
		r.refuse()
		return 0
	}
	return int(c - '0')
}

// class reads what is behind a `[`.
func (r *reader) class() Node {
	others := r.take("^")
	spans := r.item()
	for r.see() != end && !r.sees("]") {
		spans = append(spans, r.item()...)
	}
	r.need("]")
	return r.anyOf(spans, others)
}

func (r *reader) item() []span {
	place := r.place()
	escaped := r.take(`\`)
	if c := r.see(); escaped && r.take(someSet) {
		return setOf(c)
	}
	from := r.one(escaped)
	if !r.take("-") {
		return []span{{from, from}}
	}
	to := r.one(r.take(`\`))
	if to < from {
		r.note(api.ErrClass, place)
	}
	return []span{{from, to}}
}

// one reads a ONE, or the rest of it if its `\` was taken already, and tells its rune.
func (r *reader) one(escaped bool) rune {
	if escaped {
		return r.escaped()
	}
	return r.needOther(notOne)
}

// escaped reads what is behind the `\` of a rune, and tells the rune.
func (r *reader) escaped() rune {
	c := r.see()
	r.need(itself + control)
	switch c {
	case 'n':
		return '\n'
	case 't':
		return '\t'
	case 'r':
		return '\r'
	}
	return c
}
