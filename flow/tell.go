package flow

import (
	"unicode/utf8"

	"trawl/api"
	"trawl/syntax"
	"trawl/whole"
)

// near is how many bytes may be gone over again for each of several matches that become certain at one rune.
const near = 32

// tell tells the match that is certain, if it is an event, and goes on behind it.
func (f *Flow) tell() []api.Event {
	start, end := f.match.start, f.match.end
	if f.again && f.place-end > near {
		// A pattern like `x*y|x` has a match at each x, and all are certain when the last x has come: to go over the rest for each of them would take too long.
		return f.look(start, f.reached, true)
	}
	behind, width := utf8.DecodeRune(f.keptFrom(end))
	if !f.course.Pass(start, end, width) {
		return nil
	}
	event := api.Event{Start: start, End: end, Text: string(f.kept[start-f.begin : end-f.begin])}
	if f.machine.Groups > 0 {
		event.Groups = whole.Groups(f.machine, f.stretch(start, end, behind))
	}
	return []api.Event{event}
}

// look tells the events of a stretch of what is kept as if it were there as a whole.
func (f *Flow) look(from, to int, open bool) []api.Event {
	text := f.stretch(from, to, syntax.None)
	text.Open = open
	f.course.From = from
	return whole.Events(f.machine, text, &f.course)
}

func (f *Flow) stretch(from, to int, behind rune) whole.Text {
	return whole.Text{Bytes: string(f.kept[from-f.begin : to-f.begin]), Begin: from, Ahead: f.aheadOf(from), Behind: behind}
}
