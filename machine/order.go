package machine

// sorter gives states new numbers.
type sorter struct {
	states []State
	number []int // of each state the new one, or nowhere
	order  []int // the states by their new numbers
	later  []int // those to which a step over a rune leads
}

// inOrder gives the states that are reached from a start numbers such that one that goes on at its place goes on to lower ones; it tells the start's too.
func inOrder(states []State, start int) ([]State, int) {
	s := &sorter{states: states, later: []int{start}}
	for range states {
		s.number = append(s.number, nowhere)
	}
	for at := 0; at < len(s.later); at++ {
		s.visit(s.later[at])
	}
	var sorted []State
	for _, old := range s.order {
		state := states[old]
		state.Next, state.Other = s.number[state.Next], s.number[state.Other]
		sorted = append(sorted, state)
	}
	return sorted, s.number[start]
}

// visit numbers what a state goes on to at its place, then the state.
func (s *sorter) visit(old int) {
	if s.number[old] != nowhere {
		return
	}
	switch state := s.states[old]; state.Kind {
	case Take:
		s.later = append(s.later, state.Next)
	case Stand, Mark:
		s.visit(state.Next)
	case Fork:
		s.visit(state.Next)
		s.visit(state.Other)
	}
	s.number[old] = len(s.order)
	s.order = append(s.order, old)
}
