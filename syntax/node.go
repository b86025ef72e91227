package syntax

import "trawl/api"

type kind int

const (
	single     kind = iota // an atom with nothing in it: a rune, an escape, a class ..
	bracketed              // the one part, in a bracket
	sequence               // parts, one behind the other
	choice                 // parts, one or another
	repetition             // the one part, low to high times
)

// endless is the high of a repetition without an upper number.
const endless = -1

// node is a piece of a pattern.
type node struct {
	kind      kind
	parts     []node
	low, high int
}

// size tells the size of a piece, or, if that is above MaxSize, a number above MaxSize: the sizes of nested repetitions outgrow any integer.
func (n node) size() int {
	sum := 0
	for _, part := range n.parts {
		sum += part.size()
	}
	switch n.kind {
	case single, bracketed:
		sum++
	case choice:
		sum += len(n.parts) - 1
	case repetition:
		sum = n.copies() * (sum + 1)
	}
	return min(sum, api.MaxSize+1)
}

// copies tells how often a repetition counts its part: `*`, `+` and `?` count as {0,}, {1,} and {0,1} do.
func (n node) copies() int {
	if n.high == endless {
		return n.low + 1
	}
	return n.high
}
