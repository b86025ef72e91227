package trawl

import "trawl/api"

// The kinds of a piece; with any other more may come.
const (
	isEnd  = 1
	breaks = 2
)

// source gives pieces one behind the other, till it is given back.
type source struct {
	pieces []api.Piece
	read   int
}

// next reads a piece. Behind the last one is the end.
func (s *source) next() api.Piece {
	if s.read >= len(s.pieces) {
		return api.Piece{Kind: isEnd}
	}
	s.read++
	return s.pieces[s.read-1]
}

// giveBack lets go of the pieces, and tells how many were read.
func (s *source) giveBack() int {
	s.pieces = nil
	return s.read
}

// Run looks for a pattern in what a source gives (P11).
func Run(pattern string, o api.Options, pieces []api.Piece, most int) (tale api.Tale, e api.Errno) {
	s, e := Open(pattern, o)
	if e != api.OK {
		return api.Tale{}, e
	}
	from := &source{pieces: pieces}
	// How many pieces were read is known when the source is given back, whatever the run ended with.
	defer func() { tale.Read = from.giveBack() }()
	told := telling{most: most}
	e = told.follow(s, from)
	return told.tale, e
}

// telling is a tale of at most so many events; below 0: of any number.
type telling struct {
	tale api.Tale
	most int
}

// follow feeds a Stream what a source gives, up to the run's end, and tells with which error that comes.
func (t *telling) follow(s *Stream, from *source) api.Errno {
	if t.most == 0 {
		return api.ErrStop
	}
	for {
		piece := from.next()
		if e := t.add(s.Feed([]byte(piece.Data))); e != api.OK {
			return e
		}
		switch piece.Kind {
		case isEnd:
			return t.add(s.Close())
		case breaks:
			t.tale.Code = piece.Code
			return api.ErrSource
		}
	}
}

// add takes what a Stream answered, and tells the error with which that ends the run, or OK.
func (t *telling) add(events []api.Event, e api.Errno) api.Errno {
	if e != api.OK {
		return e
	}
	if t.most >= 0 {
		events = events[:min(len(events), t.most-len(t.tale.Events))]
	}
	t.tale.Events = append(t.tale.Events, events...)
	if len(t.tale.Events) == t.most {
		return api.ErrStop
	}
	return api.OK
}
