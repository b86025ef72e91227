package syntax

import (
	"cmp"
	"slices"
	"sort"
	"unicode"
)

// Set is a set of runes: spans in rising order, no two of which have a rune in common.
type Set []span

type span struct {
	from, to rune
}

// Has tells whether a rune is in the set. None never is.
func (s Set) Has(c rune) bool {
	at := sort.Search(len(s), func(i int) bool { return s[i].to >= c })
	return at < len(s) && s[at].from <= c
}

// Cuts tells the runes at which the set begins, or ceases, to have runes.
func (s Set) Cuts() []rune {
	var cuts []rune
	for _, one := range s {
		cuts = append(cuts, one.from, one.to+1)
	}
	return cuts
}

// Words is the set of the runes of words.
func Words() Set {
	return newSet(setOf('w'))
}

func newSet(spans []span) Set {
	sorted := slices.SortedFunc(slices.Values(spans), func(a, b span) int { return cmp.Compare(a.from, b.from) })
	var set Set
	for _, s := range sorted {
		if last := len(set) - 1; last >= 0 && s.from <= set[last].to {
			set[last].to = max(set[last].to, s.to)
		} else {
			set = append(set, s)
		}
	}
	return set
}

// others is the set of all runes that are not in this one.
func (s Set) others() Set {
	var set Set
	next := rune(0)
	for _, taken := range s {
		if next < taken.from {
			set = append(set, span{next, taken.from - 1})
		}
		next = taken.to + 1
	}
	if next <= unicode.MaxRune {
		set = append(set, span{next, unicode.MaxRune})
	}
	return set
}

// setOf tells what `\d`, `\w` and `\s` stand for.
func setOf(letter rune) []span {
	switch letter {
	case 'd':
		return []span{{'0', '9'}}
	case 'w':
		return []span{{'0', '9'}, {'A', 'Z'}, {'_', '_'}, {'a', 'z'}}
	}
	return []span{{'\t', '\n'}, {'\r', '\r'}, {' ', ' '}}
}

// bothKinds adds to spans the other kinds of their letters.
func bothKinds(spans []span) []span {
	const toUpper = 'A' - 'a'
	all := slices.Clone(spans)
	for _, s := range spans {
		if small := (span{max(s.from, 'a'), min(s.to, 'z')}); small.from <= small.to {
			all = append(all, span{small.from + toUpper, small.to + toUpper})
		}
		if great := (span{max(s.from, 'A'), min(s.to, 'Z')}); great.from <= great.to {
			all = append(all, span{great.from - toUpper, great.to - toUpper})
		}
	}
	return all
}
