package syntax

import "trawl/api"

const (
	notPlain  = `\.^$|?*+()[{`
	notOne    = `\[]^-`
	itself    = `.^$|?*+()[]{}-/\` // what stands for itself behind a `\`
	control   = "ntr"
	anySet    = "dDwWsS"
	classSet  = "dws"
	wordEdge  = "bB"
	digits    = "0123456789"
	nameRunes = "abcdefghijklmnopqrstuvwxyz"
)

func (r *reader) whole() node {
	n := r.alt()
	if r.see() != end {
		r.refuse()
	}
	return n
}

func (r *reader) alt() node {
	parts := []node{r.seq()}
	for r.take("|") {
		parts = append(parts, r.seq())
	}
	return node{kind: choice, parts: parts}
}

func (r *reader) seq() node {
	var parts []node
	for r.see() != end && !r.sees("|)") {
		parts = append(parts, r.repeated(r.atom()))
	}
	return node{kind: sequence, parts: parts}
}

func (r *reader) atom() node {
	switch {
	case r.take("("):
		return r.bracket()
	case r.take("["):
		r.class()
	case r.take(`\`):
		r.need(itself + control + anySet + wordEdge)
	case r.take(".^$"):
	default:
		r.needOther(notPlain)
	}
	return node{kind: single}
}

// bracket reads what is behind a `(`.
func (r *reader) bracket() node {
	switch {
	case !r.take("?"):
		r.groups++
	case r.take("<"):
		r.groups++
		r.name()
	default:
		r.take("i")
		r.need(":")
	}
	inside := r.alt()
	r.need(")")
	return node{kind: bracketed, parts: []node{inside}}
}

// name reads the NAME of the newest group, and the `>` behind it.
func (r *reader) name() {
	first := r.next
	r.need(nameRunes)
	for r.next < first+api.MaxName && r.sees(nameRunes) {
		r.next++
	}
	name := string(r.runes[first:r.next])
	if _, had := r.names[name]; had {
		r.note(api.ErrName, r.places[first])
	} else {
		r.names[name] = r.groups
	}
	r.need(">")
}

// repeated reads the times of an atom, if it has one.
func (r *reader) repeated(atom node) node {
	n := node{kind: repetition, parts: []node{atom}}
	switch place := r.place(); {
	case r.take("*"):
		n.low, n.high = 0, endless
	case r.take("+"):
		n.low, n.high = 1, endless
	case r.take("?"):
		n.low, n.high = 0, 1
	case r.take("{"):
		n.low, n.high = r.bounds()
		if n.low > api.MaxRepeat || n.high > api.MaxRepeat || n.high != endless && n.high < n.low {
			r.note(api.ErrRepeat, place)
		}
	default:
		return atom
	}
	r.take("?")
	return n
}

// bounds reads what is behind the `{` of a times.
func (r *reader) bounds() (low, high int) {
	low = r.number()
	high = low
	if r.take(",") {
		high = endless
		if !r.sees("}") {
			high = r.number()
		}
	}
	r.need("}")
	return low, high
}

// number reads an N: behind a 0 no digit can stand.
func (r *reader) number() int {
	n := r.digit()
	if n > 0 && r.sees(digits) {
		n = 10*n + r.digit()
	}
	return n
}

func (r *reader) digit() int {
	c := r.see()
	if !r.take(digits) {
		r.refuse()
		return 0
	}
	return int(c - '0')
}

// class reads what is behind a `[`.
func (r *reader) class() {
	r.take("^")
	r.item()
	for r.see() != end && !r.sees("]") {
		r.item()
	}
	r.need("]")
}

func (r *reader) item() {
	place := r.place()
	escaped := r.take(`\`)
	if escaped && r.take(classSet) {
		return
	}
	from := r.one(escaped)
	if r.take("-") && r.one(r.take(`\`)) < from {
		r.note(api.ErrClass, place)
	}
}

// one reads a ONE, or the rest of it if its `\` was taken already, and tells its rune.
func (r *reader) one(escaped bool) rune {
	c := r.see()
	if !escaped {
		r.needOther(notOne)
		return c
	}
	r.need(itself + control)
	switch c {
	case 'n':
		return '\n'
	case 't':
		return '\t'
	case 'r':
		return '\r'
	}
	return c
}
