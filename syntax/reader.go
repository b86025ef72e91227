package syntax

import (
	"strings"
	"unicode/utf8"

	"trawl/api"
)

// end is what is seen behind the last rune.
const end rune = -1

// reader goes through the runes of a pattern once, and never back.
type reader struct {
	runes  []rune
	places []int // of each rune, and of the pattern's end
	next   int   // which rune is seen
	faults map[api.Errno]int
	fold   bool // whether letters stand for both of their kinds here
	groups int
	names  map[string]int
}

func newReader(text string) *reader {
	r := &reader{faults: map[api.Errno]int{}, names: map[string]int{}}
	for place, c := range text {
		// A pattern may hold a true U+FFFD, which is no fault.
		if c == utf8.RuneError && !strings.HasPrefix(text[place:], string(utf8.RuneError)) {
			r.note(api.ErrRune, place)
		}
		r.runes = append(r.runes, c)
		r.places = append(r.places, place)
	}
	r.places = append(r.places, len(text))
	return r
}

// note keeps an error's first place. Reading goes on, for an error that is told ahead of it may still come.
func (r *reader) note(e api.Errno, place int) {
	if _, met := r.faults[e]; !met {
		r.faults[e] = place
	}
}

// refuse notes that the rune that is seen can't stand. The rest is passed over, so that whatever is being read ends there.
func (r *reader) refuse() {
	r.note(api.ErrForm, r.place())
	r.next = len(r.runes)
}

func (r *reader) place() int {
	return r.places[r.next]
}

func (r *reader) see() rune {
	if r.next == len(r.runes) {
		return end
	}
	return r.runes[r.next]
}

// sees tells whether the rune that is seen is one of these.
func (r *reader) sees(these string) bool {
	return strings.ContainsRune(these, r.see())
}

// take steps over the rune that is seen, if it is one of these.
func (r *reader) take(these string) bool {
	if !r.sees(these) {
		return false
	}
	r.next++
	return true
}

// need steps over the rune that is seen, which must be one of these.
func (r *reader) need(these string) {
	if !r.take(these) {
		r.refuse()
	}
}

// needOther steps over the rune that is seen, which may be any but these, and tells it.
func (r *reader) needOther(these string) rune {
	c := r.see()
	if c == end || r.sees(these) {
		r.refuse()
	} else {
		r.next++
	}
	return c
}
