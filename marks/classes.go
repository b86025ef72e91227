package marks

import (
	"slices"
	"sort"

	"trawl/machine"
	"trawl/syntax"
)

// classes parts the runes so that a machine does the same at all runes of one class. They are stretches of runes: of each but the lowest this is the first rune.
type classes []rune

func classesOf(m machine.Machine) classes {
	var cuts []rune
	for i := range m.States {
		switch s := &m.States[i]; s.Kind {
		case machine.Take:
			cuts = append(cuts, s.Set.Cuts()...)
		case machine.Stand:
			cuts = append(cuts, syntax.Words().Cuts()...)
		}
	}
	slices.Sort(cuts)
	return slices.Compact(cuts)
}

func (c classes) of(r rune) int {
	return sort.Search(len(c), func(i int) bool { return c[i] > r })
}

func (c classes) number() int {
	return len(c) + 1
}
