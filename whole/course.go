package whole

// Course is how far the events of a text have been told.
type Course struct {
	From int // the next match is the one from here on
	told int // the end of the event ahead, or none
}

const none = -1

// NewCourse is that of a text of which no event was told.
func NewCourse() Course {
	return Course{told: none}
}

// Pass goes on behind a match, and tells whether it is an event. The width is that of the rune behind the match.
func (c *Course) Pass(start, end, width int) bool {
	c.From = end
	if start == end {
		c.From += width
		if end == c.told {
			return false
		}
	}
	c.told = end
	return true
}
