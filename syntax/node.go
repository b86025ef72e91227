package syntax

import "trawl/api"

// Kind tells what a piece of a pattern is.
type Kind int

const (
	Runes      Kind = iota // one rune of Set
	Border                 // no rune, but a place that is such an Edge
	Bracket                // the one part, as the group Group if that is not 0
	Sequence               // parts, one behind the other
	Choice                 // parts, one or another
	Repetition             // the one part, Low to High times, as few as can be if Lazy
)

// Endless is the High of a repetition without an upper number.
const Endless = -1

// Node is a piece of a pattern.
type Node struct {
	Kind      Kind
	Parts     []Node
	Set       Set
	Edge      Edge
	Group     int
	Low, High int
	Lazy      bool
}

// size tells the size of a piece, or, if that is above MaxSize, a number above MaxSize: the sizes of nested repetitions outgrow any integer.
func (n Node) size() int {
	sum := 0
	for _, part := range n.Parts {
		sum += part.size()
	}
	switch n.Kind {
	case Runes, Border, Bracket:
		sum++
	case Choice:
		sum += len(n.Parts) - 1
	case Repetition:
		sum = n.copies() * (sum + 1)
	}
	return min(sum, api.MaxSize+1)
}

// copies tells how often a repetition counts its part: `*`, `+` and `?` count as {0,}, {1,} and {0,1} do.
func (n Node) copies() int {
	if n.High == Endless {
		return n.Low + 1
	}
	return n.High
}
