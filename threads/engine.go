package threads

import (
	"trawl/machine"
	"trawl/syntax"
)

// Engine looks for a match with the threads themselves.
type Engine struct {
	start    int // the state with which a thread starts
	follower *Follower
	ahead    rune
	list     []Thread // those that go on; their starts rise
	spare    []Thread // memory for the next list
	matched  bool     // a try was done: no thread that starts later comes ahead of it
}

func NewEngine(m machine.Machine) *Engine {
	return &Engine{start: m.Start, follower: NewFollower(m), ahead: syntax.None}
}

// Begin forgets all threads; the next start is behind such a rune.
func (e *Engine) Begin(ahead rune) {
	e.ahead, e.list, e.matched = ahead, e.list[:0], false
}

// Step goes from a place over the rune behind it. If a try is done at the place that comes ahead of all that were done, its start is told.
func (e *Engine) Step(place int, behind rune) (start int, done bool) {
	if !e.matched {
		e.list = append(e.list, Thread{State: e.start, Start: place})
	}
	next, start, done := e.follower.Step(e.list, e.spare, e.ahead, behind)
	e.list, e.spare = next, e.list
	e.ahead = behind
	e.matched = e.matched || done
	return start, done
}

// First tells the least start of the threads that go on, if there are any.
func (e *Engine) First() (int, bool) {
	if len(e.list) == 0 {
		return 0, false
	}
	return e.list[0].Start, true
}

// States tells how many states are kept: none are.
func (e *Engine) States() int {
	return 0
}
