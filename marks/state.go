package marks

import "trawl/threads"

// state is all on which it hangs how the looking goes on, but for the places. Each Start of its threads is the number of a mark: the places of the starts, in rising order, are marked beside the state.
type state struct {
	threads []threads.Thread
	ahead   rune // a sample
	matched bool // a try was done: no more threads start
	steps   []*step
}

// step is what comes of a state at the runes of a class.
type step struct {
	to    *state
	marks []int // of each mark of `to`, which one it was ahead of the step
	match int   // the mark of the try that was done, or none
}

const none = -1

// key is a text that no other state has. Two bytes do for a number: a pattern of the greatest size has some thousand states, and no more threads than states.
func (s *state) key() string {
	key := []byte{byte(s.ahead), 0}
	if s.matched {
		key[1] = 1
	}
	for _, t := range s.threads {
		key = append(key, byte(t.State), byte(t.State>>8), byte(t.Start), byte(t.Start>>8))
	}
	return string(key)
}

// renumber gives the starts of threads, which rise, the numbers from 0 on; it tells which numbers they had.
func renumber(list []threads.Thread) []int {
	var had []int
	for i, t := range list {
		if len(had) == 0 || had[len(had)-1] != t.Start {
			had = append(had, t.Start)
		}
		list[i].Start = len(had) - 1
	}
	return had
}
