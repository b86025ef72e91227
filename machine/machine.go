// Package machine makes of a pattern states, from each of which one steps to the next: over a rune, or staying at a place.
package machine

import "trawl/syntax"

// Kind tells what a state does.
type Kind int

const (
	Done  Kind = iota // a try of the whole pattern ends
	Take              // steps over a rune of Set, to Next
	Stand             // goes on to Next, if the place is such an Edge
	Mark              // notes the place as a group's beginning or end, and goes on to Next
	Fork              // goes on to Next; the tries of Other come behind those of Next
)

// State is one of a Machine's states. Next and Other are numbers of states.
type State struct {
	Kind        Kind
	Set         syntax.Set
	Edge        syntax.Edge
	Slot        int // of a Mark: which number of an event's Groups it is
	Next, Other int
}

// Machine is a pattern's states. One that goes on at its place goes on to lower numbers only: whoever works states out in their order has those that a state hangs on, and none comes back to itself without a rune.
type Machine struct {
	States []State
	Start  int
	Groups int
}

// New makes the machine of a pattern.
func New(p syntax.Pattern) Machine {
	b := &builder{}
	done := b.add(State{Kind: Done})
	start := b.piece(p.Root, exits{done, done}).moved
	states, start := inOrder(b.states, start)
	return Machine{States: states, Start: start, Groups: p.Groups}
}
