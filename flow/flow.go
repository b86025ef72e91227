// Package flow tells the events of a text that comes part by part.
package flow

import (
	"bytes"
	"unicode/utf8"

	"trawl/api"
	"trawl/machine"
	"trawl/marks"
	"trawl/syntax"
	"trawl/threads"
	"trawl/whole"
)

// engine follows the tries from all boundaries, from the one on at which it began.
type engine interface {
	Begin(ahead rune)
	Step(place int, behind rune) (start int, done bool)
	First() (start int, ok bool)
	States() int
}

// Flow takes a text part by part. Its engine goes over rune by rune till a match is certain: a try was done, and none goes on that comes ahead of it. Then the engine begins anew behind the match, and goes once more over what it had looked at beyond.
type Flow struct {
	machine machine.Machine
	engine  engine
	kept    []byte
	begin   int  // the place of the first byte that is kept
	ahead   rune // a sample of the rune ahead of it
	place   int  // the boundary to which the engine has come
	reached int  // the farthest boundary to which it ever came
	again   bool // whether its last step was over a rune that it had gone over ahead of that
	course  whole.Course
	match   match
	window  int  // how many bytes may be kept; 0: any number
	over    bool // whether more than that would have been kept
}

// match is the first in order of the tries that were done since the engine began, if any was.
type match struct {
	start, end int
	done       bool
}

// New makes a flow of which nothing has come.
func New(m machine.Machine, o api.Options) *Flow {
	f := &Flow{machine: m, ahead: syntax.None, course: whole.NewCourse(), window: o.Window}
	if o.Engine == 1 {
		f.engine = threads.NewEngine(m)
	} else {
		f.engine = marks.NewEngine(m, o.Cache)
	}
	return f
}

// Feed takes bytes, and tells the events that are certain by now. If more bytes would have to be kept behind it than may be, it tells none, and nothing more is taken.
func (f *Flow) Feed(part []byte) ([]api.Event, api.Errno) {
	if f.over {
		return nil, api.ErrWindow
	}
	events := f.take(part)
	if f.window != 0 && len(f.kept) > f.window {
		// The engine stays: the states that it keeps are told up to Close.
		f.over, f.kept = true, nil
		return nil, api.ErrWindow
	}
	return events, api.OK
}

// take goes over what comes, as far as runes are whole: bytes at the end that may be the beginning of one wait for the rest of it.
func (f *Flow) take(part []byte) []api.Event {
	var events []api.Event
	f.kept = append(f.kept, part...)
	for utf8.FullRune(f.keptFrom(f.place)) {
		f.step()
		if f.certain() {
			events = append(events, f.tell()...)
			f.goBack()
		}
	}
	f.drop(f.front())
	return events
}

// Close tells the rest of the events: nothing more comes.
func (f *Flow) Close() ([]api.Event, api.Errno) {
	if f.over {
		return nil, api.ErrWindow
	}
	return f.look(f.front(), f.begin+len(f.kept), false), api.OK
}

// Kept tells how many bytes are kept.
func (f *Flow) Kept() int {
	return len(f.kept)
}

// States tells how many states the engine keeps.
func (f *Flow) States() int {
	return f.engine.States()
}

func (f *Flow) step() {
	f.again = f.place < f.reached
	behind, width := utf8.DecodeRune(f.keptFrom(f.place))
	if start, done := f.engine.Step(f.place, behind); done {
		f.match = match{start: start, end: f.place, done: true}
	}
	f.place += width
	f.reached = max(f.reached, f.place)
}

func (f *Flow) certain() bool {
	_, more := f.engine.First()
	return f.match.done && !more
}

// goBack lets the engine begin anew where the next match is looked for.
func (f *Flow) goBack() {
	f.place, f.match = f.course.From, match{}
	f.engine.Begin(f.aheadOf(f.place))
}

// front tells the least boundary from which a match may yet come.
func (f *Flow) front() int {
	if start, ok := f.engine.First(); ok {
		return start
	}
	return f.place
}

// drop keeps what is from a boundary on, in new memory, so that the rest is free.
func (f *Flow) drop(to int) {
	if to > f.begin {
		f.ahead = f.aheadOf(to)
		f.kept = bytes.Clone(f.keptFrom(to))
		f.begin = to
	}
}

func (f *Flow) keptFrom(place int) []byte {
	return f.kept[place-f.begin:]
}

// aheadOf tells a sample of the rune ahead of a boundary.
func (f *Flow) aheadOf(place int) rune {
	if place == f.begin {
		return f.ahead
	}
	c, _ := utf8.DecodeLastRune(f.kept[:place-f.begin])
	return syntax.Sample(c)
}
