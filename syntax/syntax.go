// Package syntax reads patterns: whether a string is one, what it is made of, how great it is, and what its groups are called.
package syntax

import "trawl/api"

// Pattern is what was read of a string that is a pattern.
type Pattern struct {
	Root   Node
	Groups int
	names  map[string]int // of the groups that have a name: their numbers
}

// Read reads a pattern, or tells the error that is named first and its place in bytes.
func Read(text string) (Pattern, api.Errno, int) {
	if len(text) > api.MaxPattern {
		return Pattern{}, api.ErrLong, 0
	}
	r := newReader(text)
	root := r.whole()
	if root.size() > api.MaxSize {
		r.note(api.ErrBig, 0)
	}
	// The numbers of the errors go up in the order in which they are to be told.
	for e := api.ErrRune; e <= api.ErrBig; e++ {
		if place, met := r.faults[e]; met {
			return Pattern{}, e, place
		}
	}
	return Pattern{Root: root, Groups: r.groups, names: r.names}, api.OK, 0
}

// Names tells of each group its name, by number; of one without a name the empty string.
func (p Pattern) Names() []string {
	list := make([]string, p.Groups)
	for name, number := range p.names {
		list[number-1] = name
	}
	return list
}
