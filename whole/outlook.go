package whole

import (
	"math"
	"slices"
	"unicode/utf8"

	"trawl/machine"
)

// blockLength is of how many bytes of a text, or a few more, the rows are there at one time.
const blockLength = 4096

// outlook tells from which states, at which boundaries of a text, a try of the whole pattern comes off, or, if the text is open, comes to its end. That hangs on what is behind the boundary alone, so it is worked out from the text's end to its beginning: once for the whole text, of which a row for each block is kept, and then again for each block when it is asked for. So the time is that of states times text, whatever fails, and the room is not.
type outlook struct {
	machine machine.Machine
	text    Text
	begins  []int // of the blocks, and the text's end
	firsts  []row // of the boundaries that begins tells
	block   int   // the one whose rows are there
	rows    []row // of its boundaries, by their distance from its beginning
}

func newOutlook(m machine.Machine, text Text) *outlook {
	o := &outlook{machine: m, text: text, begins: blocks(text.Bytes)}
	o.rows = newRows(min(len(text.Bytes), blockLength+utf8.UTFMax)+1, len(m.States))
	o.firsts = newRows(len(o.begins), len(m.States))
	last, nothing := len(o.begins)-1, newRows(1, len(m.States))[0]
	if text.Open {
		o.firsts[last].putAll()
	} else {
		o.reckon(o.firsts[last], nothing, len(text.Bytes))
	}
	for block := last - 1; block >= 0; block-- {
		o.load(block)
		copy(o.firsts[block], o.rows[0])
	}
	return o
}

// blocks cuts a text at boundaries.
func blocks(text string) []int {
	begins := []int{0}
	for place := range text {
		if place >= begins[len(begins)-1]+blockLength {
			begins = append(begins, place)
		}
	}
	return append(begins, len(text))
}

// load works out the rows of a block from the row at its end.
func (o *outlook) load(block int) {
	o.block = block
	from, to := o.begins[block], o.begins[block+1]
	copy(o.rows[to-from], o.firsts[block+1])
	var places []int
	for place := range o.text.Bytes[from:to] {
		places = append(places, place)
	}
	behind := to - from
	for _, place := range slices.Backward(places) {
		o.reckon(o.rows[place], o.rows[behind], from+place)
		behind = place
	}
}

// reckon works out the row of a place from the row of the boundary behind it.
func (o *outlook) reckon(now, next row, place int) {
	clear(now)
	ahead, behind := o.text.around(place)
	for number := range o.machine.States {
		var comesOff bool
		switch s := &o.machine.States[number]; s.Kind {
		case machine.Done:
			comesOff = true
		case machine.Take:
			comesOff = s.Set.Has(behind) && next.has(s.Next)
		case machine.Stand:
			comesOff = now.has(s.Next) && s.Edge.Holds(ahead, behind)
		case machine.Mark:
			comesOff = now.has(s.Next)
		case machine.Fork:
			comesOff = now.has(s.Next) || now.has(s.Other)
		}
		if comesOff {
			now.put(number)
		}
	}
}

// comesOff tells whether a try comes off from a state at a boundary. The boundaries that are asked for must not go back.
func (o *outlook) comesOff(state, place int) bool {
	block := o.block
	for place > o.begins[block+1] {
		block++
	}
	if block != o.block {
		o.load(block)
	}
	return o.rows[place-o.begins[block]].has(state)
}

// around tells the runes ahead of a boundary and behind it.
func (t Text) around(place int) (ahead, behind rune) {
	ahead, behind = t.Ahead, t.Behind
	if place > 0 {
		ahead, _ = utf8.DecodeLastRuneInString(t.Bytes[:place])
	}
	if place < len(t.Bytes) {
		behind, _ = utf8.DecodeRuneInString(t.Bytes[place:])
	}
	return ahead, behind
}

// row holds, of one boundary, the states from which a try comes off.
type row []uint64

func newRows(number, states int) []row {
	length := states/64 + 1
	words := make(row, number*length)
	var rows []row
	for one := range slices.Chunk(words, length) {
		rows = append(rows, one)
	}
	return rows
}

func (r row) has(state int) bool {
	return r[state/64]>>(state%64)&1 != 0
}

func (r row) put(state int) {
	r[state/64] |= 1 << (state % 64)
}

func (r row) putAll() {
	for i := range r {
		r[i] = math.MaxUint64
	}
}
