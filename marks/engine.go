// Package marks follows the tries of a pattern by states that it keeps: what comes of a state at a rune is worked out once, as long as the state is kept.
package marks

import (
	"trawl/machine"
	"trawl/syntax"
	"trawl/threads"
)

// Engine looks for a match by states. Each state is a list of threads as package threads has it, but without the places at which they started: those are the marks, which a step moves.
type Engine struct {
	start    int // the machine's
	follower *threads.Follower
	edges    bool // whether the machine looks at the rune ahead of a place
	classes  classes
	most     int
	states   map[string]*state // by their keys
	now      *state
	marks    []int // the starts of the threads that go on, rising
}

// NewEngine makes an engine that keeps at most so many states, one at least.
func NewEngine(m machine.Machine, most int) *Engine {
	e := &Engine{start: m.Start, follower: threads.NewFollower(m), classes: classesOf(m), most: most, states: map[string]*state{}}
	for i := range m.States {
		e.edges = e.edges || m.States[i].Kind == machine.Stand
	}
	e.Begin(syntax.None)
	return e
}

// Begin forgets all threads; the next start is behind such a rune.
func (e *Engine) Begin(ahead rune) {
	e.marks = e.marks[:0]
	e.now = e.keep(state{ahead: e.sample(ahead)})
}

// Step goes from a place over the rune behind it. If a try is done at the place that comes ahead of all that were done, its start is told.
func (e *Engine) Step(place int, behind rune) (start int, done bool) {
	if !e.now.matched {
		e.marks = append(e.marks, place)
	}
	s := e.stepOver(behind)
	if s.match != none {
		start, done = e.marks[s.match], true
	}
	// A mark never moves up, so none is written over ahead of its move.
	for i, had := range s.marks {
		e.marks[i] = e.marks[had]
	}
	e.marks = e.marks[:len(s.marks)]
	e.now = s.to
	return start, done
}

// stepOver tells the step from the state that is now; it is worked out where it was not gone yet.
func (e *Engine) stepOver(behind rune) *step {
	class, from := e.classes.of(behind), e.now
	if from.steps == nil {
		from.steps = make([]*step, e.classes.number())
	}
	if from.steps[class] == nil {
		from.steps[class] = e.workOut(from, behind)
	}
	return from.steps[class]
}

func (e *Engine) workOut(from *state, behind rune) *step {
	list := from.threads
	if !from.matched {
		mark := len(e.marks) - 1
		list = append(list[:len(list):len(list)], threads.Thread{State: e.start, Start: mark})
	}
	next, match, done := e.follower.Step(list, nil, from.ahead, behind)
	if !done {
		match = none
	}
	marks := renumber(next)
	to := e.keep(state{threads: next, ahead: e.sample(behind), matched: from.matched || done})
	return &step{to: to, marks: marks, match: match}
}

// keep tells the state that is kept in place of one like it. When there are as many as may be, all are forgotten: then none that is left leads to one of them.
func (e *Engine) keep(s state) *state {
	key := s.key()
	if kept, ok := e.states[key]; ok {
		return kept
	}
	if len(e.states) == e.most {
		clear(e.states)
	}
	e.states[key] = &s
	return &s
}

// sample tells what a state is to know of the rune ahead: nothing, if that changes nothing.
func (e *Engine) sample(ahead rune) rune {
	if !e.edges {
		return syntax.None
	}
	return syntax.Sample(ahead)
}

// First tells the least start of the threads that go on, if there are any.
func (e *Engine) First() (int, bool) {
	if len(e.marks) == 0 {
		return 0, false
	}
	return e.marks[0], true
}

// States tells how many states are kept.
func (e *Engine) States() int {
	return len(e.states)
}
