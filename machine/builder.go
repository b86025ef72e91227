package machine

import "trawl/syntax"

// nowhere is the number of no state: what goes on there has no tries.
const nowhere = -1

// exits are the states from which tries go on. A repetition without an upper number drops the tries of its part that take no rune; so within one every piece has two beginnings and two ends: still, as long as no rune was taken in this turn, and moved.
type exits struct {
	still, moved int
}

// builder makes the states of pieces from the last to the first: what a piece goes on to is there already.
type builder struct {
	states []State
}

func (b *builder) add(s State) int {
	b.states = append(b.states, s)
	return len(b.states) - 1
}

// piece makes the states of a piece of a pattern, and tells the ones to begin with.
func (b *builder) piece(n syntax.Node, next exits) exits {
	switch n.Kind {
	case syntax.Runes:
		take := b.add(State{Kind: Take, Set: n.Set, Next: next.moved})
		return exits{take, take}
	case syntax.Border:
		return b.lead(State{Kind: Stand, Edge: n.Edge}, next)
	case syntax.Bracket:
		return b.bracket(n, next)
	case syntax.Sequence:
		for i := len(n.Parts) - 1; i >= 0; i-- {
			next = b.piece(n.Parts[i], next)
		}
		return next
	case syntax.Choice:
		return b.choice(n.Parts, next)
	}
	return b.repetition(n, next)
}

func (b *builder) bracket(n syntax.Node, next exits) exits {
	inside := n.Parts[0]
	if n.Group == 0 {
		return b.piece(inside, next)
	}
	slot := 2 * (n.Group - 1)
	next = b.lead(State{Kind: Mark, Slot: slot + 1}, next)
	return b.lead(State{Kind: Mark, Slot: slot}, b.piece(inside, next))
}

func (b *builder) choice(parts []syntax.Node, next exits) exits {
	last := len(parts) - 1
	all := b.piece(parts[last], next)
	for i := last - 1; i >= 0; i-- {
		all = b.fork(b.piece(parts[i], next), all)
	}
	return all
}

func (b *builder) repetition(n syntax.Node, next exits) exits {
	if n.High == syntax.Endless {
		next = b.loop(n, next)
	} else {
		next = b.options(n, next)
	}
	for range n.Low {
		next = b.piece(n.Parts[0], next)
	}
	return next
}

// options makes the part once for each time that it may be left out, each within the one ahead of it.
func (b *builder) options(n syntax.Node, next exits) exits {
	all := next
	for range n.High - n.Low {
		all = b.either(n.Lazy, b.piece(n.Parts[0], all), next)
	}
	return all
}

// loop makes the part once. What a turn that took a rune goes on to gets its number ahead of the part, and is the choice between one more turn and the rest.
func (b *builder) loop(n syntax.Node, next exits) exits {
	again := b.add(State{})
	turn := b.piece(n.Parts[0], exits{nowhere, again}).still
	all := b.either(n.Lazy, exits{turn, turn}, next)
	b.states[again] = b.states[all.moved]
	return all
}

// lead puts a state that takes no rune ahead of others.
func (b *builder) lead(s State, next exits) exits {
	s.Next = next.moved
	moved := b.add(s)
	switch next.still {
	case next.moved:
		return exits{moved, moved}
	case nowhere:
		return exits{nowhere, moved}
	}
	s.Next = next.still
	return exits{b.add(s), moved}
}

// either is the choice between a part and what is behind it: the part first, unless it is lazy.
func (b *builder) either(lazy bool, part, rest exits) exits {
	if lazy {
		return b.fork(rest, part)
	}
	return b.fork(part, rest)
}

func (b *builder) fork(first, second exits) exits {
	moved := b.forkOne(first.moved, second.moved)
	if first.still == first.moved && second.still == second.moved {
		return exits{moved, moved}
	}
	return exits{b.forkOne(first.still, second.still), moved}
}

func (b *builder) forkOne(first, second int) int {
	switch {
	case first == nowhere:
		return second
	case second == nowhere:
		return first
	}
	return b.add(State{Kind: Fork, Next: first, Other: second})
}
