// Package whole tells the events of a text that is there as a whole.
package whole

import (
	"slices"
	"strings"
	"unicode/utf8"

	"trawl/api"
	"trawl/machine"
)

// Events tells the events of a text, in order.
func Events(m machine.Machine, text string) []api.Event {
	var events []api.Event
	o := newOutlook(m, text)
	told := -1 // the end of the event ahead
	for place := 0; place <= len(text); {
		if !o.comesOff(m.Start, place) {
			place = nextBoundary(text, place)
			continue
		}
		match := o.match(place)
		empty := match.Start == match.End
		if !empty || match.End != told {
			events = append(events, match)
			told = match.End
		}
		place = match.End
		if empty {
			place = nextBoundary(text, place)
		}
	}
	return events
}

// match goes the first try from a boundary at which one comes off.
func (o *outlook) match(start int) api.Event {
	groups := slices.Repeat([]int{-1}, 2*o.machine.Groups)
	place, number := start, o.machine.Start
	for {
		s := &o.machine.States[number]
		number = s.Next
		switch s.Kind {
		case machine.Done:
			return api.Event{Start: start, End: place, Groups: groups, Text: strings.Clone(o.text[start:place])}
		case machine.Take:
			place = nextBoundary(o.text, place)
		case machine.Mark:
			groups[s.Slot] = place
		case machine.Fork:
			if !o.comesOff(s.Next, place) {
				number = s.Other
			}
		}
	}
}

// nextBoundary tells the boundary behind one; behind the text's end a number above it.
func nextBoundary(text string, place int) int {
	_, width := utf8.DecodeRuneInString(text[place:])
	return place + max(width, 1)
}
