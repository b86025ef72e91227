// Package whole tells the events of a text that is there as a whole, or of a stretch of one.
package whole

import (
	"slices"
	"strings"
	"unicode/utf8"

	"trawl/api"
	"trawl/machine"
	"trawl/syntax"
)

// Text is a text, or a stretch of one from a boundary to a boundary.
type Text struct {
	Bytes  string
	Begin  int  // the place of its first byte
	Ahead  rune // the rune ahead of it, or None
	Behind rune // the rune behind it, or None
	Open   bool // whether more may come behind it: then Behind is not looked at
}

// All tells the events of a text, in order.
func All(m machine.Machine, text string) []api.Event {
	c := NewCourse()
	return Events(m, Text{Bytes: text, Ahead: syntax.None, Behind: syntax.None}, &c)
}

// Events tells the events of a text from the course's From on, in order. Of an open one it tells those that stay what they are whatever comes; From is then the least boundary from which a try goes on to the text's end.
func Events(m machine.Machine, text Text, c *Course) []api.Event {
	var events []api.Event
	o := newOutlook(m, text)
	for c.From <= text.Begin+len(text.Bytes) {
		place := c.From - text.Begin
		if !o.comesOff(m.Start, place) {
			c.From += width(text.Bytes, place)
			continue
		}
		match, certain := o.match(place)
		if !certain {
			break
		}
		if c.Pass(match.Start, match.End, width(text.Bytes, match.End-text.Begin)) {
			events = append(events, match)
		}
	}
	return events
}

// Groups tells what the groups are in a match, the text being what it matches: a try that ends ahead of the match's end would be one of the longer text too, so the first is the match.
func Groups(m machine.Machine, text Text) []int {
	match, _ := newOutlook(m, text).match(0)
	return match.Groups
}

// match goes the first try from a boundary at which one comes off. It is not certain if that leads to where more may come.
func (o *outlook) match(start int) (match api.Event, certain bool) {
	groups := slices.Repeat([]int{-1}, 2*o.machine.Groups)
	begin, bytes := o.text.Begin, o.text.Bytes
	place, number := start, o.machine.Start
	for !o.text.Open || place < len(bytes) {
		s := &o.machine.States[number]
		number = s.Next
		switch s.Kind {
		case machine.Done:
			return api.Event{Start: begin + start, End: begin + place, Groups: groups, Text: strings.Clone(bytes[start:place])}, true
		case machine.Take:
			place += width(bytes, place)
		case machine.Mark:
			groups[s.Slot] = begin + place
		case machine.Fork:
			if !o.comesOff(s.Next, place) {
				number = s.Other
			}
		}
	}
	return api.Event{}, false
}

// width tells how far it is from a boundary to the next; from the text's end it is one byte to a number above it.
func width(text string, place int) int {
	_, length := utf8.DecodeRuneInString(text[place:])
	return max(length, 1)
}
