package trawl

import (
	"strings"
	"unicode/utf8"

	"trawl/api"
)

// What P8 and P9 say of the time of an event and of the bytes that are kept, worked out from the document's words. It goes by the parts of the second reader, and looks at the whole text at once.

// places is a set of numbers of runes.
type places []bool

func (p places) with(others places) places {
	all := append(places{}, p...)
	for i, is := range others {
		all[i] = all[i] || is
	}
	return all
}

func (p places) count() int {
	n := 0
	for _, is := range p {
		if is {
			n++
		}
	}
	return n
}

// reach tells where a part can end that begins at one of some places, edges being everywhere; and whether it can go on beyond the last rune.
func reach(p part, runes []rune, from places) (ends places, beyond bool) {
	switch p.sort {
	case "atom":
		return reachAtom(p, runes, from)
	case "bracket":
		return reach(p.parts[0], runes, from)
	case "seq":
		for _, one := range p.parts {
			more := false
			from, more = reach(one, runes, from)
			beyond = beyond || more
		}
		return from, beyond
	case "alt":
		ends = make(places, len(from))
		for _, one := range p.parts {
			some, more := reach(one, runes, from)
			ends, beyond = ends.with(some), beyond || more
		}
		return ends, beyond
	}
	return reachTimes(p, runes, from)
}

func reachTimes(p part, runes []rune, from places) (ends places, beyond bool) {
	turn := func() {
		more := false
		from, more = reach(p.parts[0], runes, from)
		beyond = beyond || more
	}
	for range p.low {
		turn()
	}
	ends = from
	for n := p.low; n != p.high; n++ {
		turn()
		had := ends.count()
		if ends = ends.with(from); p.high == -1 && ends.count() == had {
			break
		}
	}
	return ends, beyond
}

func reachAtom(p part, runes []rune, from places) (ends places, beyond bool) {
	if p.text == "^" || p.text == "$" || p.text == `\b` || p.text == `\B` {
		return from, false
	}
	ends = make(places, len(from))
	for i, c := range runes {
		ends[i+1] = from[i] && atomHas(p.text, p.fold, c)
	}
	return ends, from[len(runes)]
}

// outline is a text as the promises look at it.
type outline struct {
	text   string
	events []api.Event
	bounds []int    // the boundaries
	alive  [][]bool // alive[s][t]: whether the boundary numbered s is alive at that numbered t
}

func newOutline(pattern, text string, events []api.Event) *outline {
	tokens, _, _ := cut(pattern)
	whole := (&treeReader{tokens: tokens}).alt(false)
	o := &outline{text: text, events: events}
	var runes []rune
	for place, c := range text {
		runes = append(runes, c)
		o.bounds = append(o.bounds, place)
	}
	o.bounds = append(o.bounds, len(text))
	for s := range o.bounds {
		row := make([]bool, len(o.bounds))
		for t := s; t < len(o.bounds); t++ {
			from := make(places, t-s+1)
			from[0] = true
			ends, beyond := reach(whole, runes[s:t], from)
			row[t] = beyond || ends[t-s]
		}
		o.alive = append(o.alive, row)
	}
	return o
}

// times tells the times of the events; of one that has none, a number above all.
func (o *outline) times() []int {
	var times []int
	ahead, least := 0, 0
	for _, x := range o.events {
		time := len(o.text) + 100
		for t := len(o.bounds) - 1; t >= 0 && o.bounds[t] >= max(x.End, least) && !o.someAlive(ahead, x.Start, t); t-- {
			time = o.bounds[t]
		}
		times = append(times, time)
		ahead, least = x.End, time
	}
	return times
}

func (o *outline) someAlive(from, to, t int) bool {
	for s, place := range o.bounds {
		if from <= place && place <= to && o.alive[s][t] {
			return true
		}
	}
	return false
}

// keeps tells how many bytes must, and how many may, be kept when so many bytes were taken and so many events told.
func (o *outline) keeps(taken, told int) (least, most int) {
	for _, x := range o.events[told:] {
		if x.Start < taken {
			least = max(least, taken-x.Start)
		}
	}
	end := 0
	if told > 0 {
		end = o.events[told-1].End
	}
	q := taken - waiting(o.text[:taken])
	for t, place := range o.bounds {
		if place != q {
			continue
		}
		for s, from := range o.bounds {
			if from >= end && o.alive[s][t] {
				return least, taken - from
			}
		}
	}
	return least, -1
}

// waiting tells how many bytes at a text's end may be the beginning of a rune.
func waiting(text string) int {
	for n := min(3, len(text)); n > 0; n-- {
		for _, rest := range []string{"\x80", "\x80\x80", "\xa0\x80", "\x80\x80\x80", "\x90\x80\x80"} {
			begun := text[len(text)-n:] + rest
			if utf8.ValidString(begun) && utf8.RuneCountInString(begun) == 1 {
				return n
			}
		}
	}
	return 0
}

// cutAt cuts a text behind some of its bytes: behind the one numbered i, if bit i of a number is set.
func cutAt(text string, bits int) []string {
	var parts []string
	var part strings.Builder
	for i := range len(text) {
		part.WriteByte(text[i])
		if bits>>i&1 != 0 {
			parts = append(parts, part.String())
			part.Reset()
		}
	}
	return append(parts, part.String())
}
