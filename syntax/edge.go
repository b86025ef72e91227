package syntax

// Edge is what a place must be where no rune is asked for.
type Edge int

const (
	TextBegin Edge = iota
	TextEnd
	WordEdge
	NoWordEdge
)

// None stands for the rune ahead of a text's beginning, and for the one behind its end.
const None rune = -1

// Holds tells whether a place between two runes is such an edge.
func (e Edge) Holds(ahead, behind rune) bool {
	switch e {
	case TextBegin:
		return ahead == None
	case TextEnd:
		return behind == None
	}
	return (isWord(ahead) != isWord(behind)) == (e == WordEdge)
}

// Sample tells a rune that every Edge takes for c: None, a word's rune or another. There are just three, so places can be held against each other by it.
func Sample(c rune) rune {
	switch {
	case c == None:
		return None
	case isWord(c):
		return 'w'
	}
	return ' '
}

func isWord(c rune) bool {
	return c == '_' || '0' <= c && c <= '9' || 'A' <= c && c <= 'Z' || 'a' <= c && c <= 'z'
}

// edgeOf tells the edge that a rune of a pattern stands for.
func edgeOf(c rune) Edge {
	switch c {
	case '^':
		return TextBegin
	case '$':
		return TextEnd
	case 'b':
		return WordEdge
	}
	return NoWordEdge
}
