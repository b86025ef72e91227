// Package threads follows the tries of a pattern thread by thread, over rune by rune, from all boundaries at once.
package threads

import "trawl/machine"

// Thread is a try on its way: the boundary from which it started, and the state with which it goes on.
type Thread struct {
	State, Start int
}

// Follower takes threads over runes.
type Follower struct {
	machine       machine.Machine
	ahead, behind rune
	seen          []bool // the states that were gone through at this place: a later thread would do there what an earlier one did
	begun         []bool // the states with which threads go on behind the rune
	next          []Thread
}

func NewFollower(m machine.Machine) *Follower {
	return &Follower{machine: m, seen: make([]bool, len(m.States)), begun: make([]bool, len(m.States))}
}

// Step takes threads, which come in the order of their tries, from a place over the rune behind it, and tells those that go on, in their order, in the memory of into. If a thread is done at the place, its start is told; then those behind it in the order do not go on.
func (f *Follower) Step(list, into []Thread, ahead, behind rune) (next []Thread, start int, done bool) {
	clear(f.seen)
	clear(f.begun)
	f.ahead, f.behind, f.next = ahead, behind, into[:0]
	for _, t := range list {
		if f.follow(t.State, t.Start) {
			return f.next, t.Start, true
		}
	}
	return f.next, 0, false
}

// follow goes the tries from a state in their order, up to the rune; it tells whether one is done ahead of it.
func (f *Follower) follow(number, start int) bool {
	for !f.seen[number] {
		f.seen[number] = true
		s := &f.machine.States[number]
		number = s.Next
		switch s.Kind {
		case machine.Done:
			return true
		case machine.Take:
			f.take(s, start)
			return false
		case machine.Stand:
			if !s.Edge.Holds(f.ahead, f.behind) {
				return false
			}
		case machine.Fork:
			if f.follow(s.Next, start) {
				return true
			}
			number = s.Other
		}
	}
	return false
}

func (f *Follower) take(s *machine.State, start int) {
	if s.Set.Has(f.behind) && !f.begun[s.Next] {
		f.begun[s.Next] = true
		f.next = append(f.next, Thread{State: s.Next, Start: start})
	}
}
