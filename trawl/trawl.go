// Package trawl: patterns looked for in a stream of bytes, as it comes: see DOC.md.
package trawl

import (
	"trawl/api"
	"trawl/machine"
	"trawl/syntax"
	"trawl/whole"
)

// Stream looks for a pattern in bytes that come part by part.
type Stream struct{}

// Check tells whether a string is a pattern, and if not, where (P3).
func Check(pattern string) (api.Errno, int) {
	_, e, place := syntax.Read(pattern)
	return e, place
}

// Names tells the names of a pattern's groups (P4).
func Names(pattern string) ([]string, api.Errno) {
	p, e, _ := syntax.Read(pattern)
	if e != api.OK {
		return nil, e
	}
	return p.Names(), api.OK
}

// Find tells the events of a whole text (P5).
func Find(pattern string, text string) ([]api.Event, api.Errno) {
	p, e, _ := syntax.Read(pattern)
	if e != api.OK {
		return nil, e
	}
	return whole.Events(machine.New(p), text), api.OK
}

// Open makes a Stream (P6).
func Open(pattern string, o api.Options) (*Stream, api.Errno) { return nil, api.OK }

// Feed takes bytes, and tells the events that are certain by now (P7, P8, P10).
func (s *Stream) Feed(part []byte) ([]api.Event, api.Errno) { return nil, api.OK }

// Close tells the rest of the events (P7).
func (s *Stream) Close() ([]api.Event, api.Errno) { return nil, api.OK }

// Kept tells how many bytes are kept (P9).
func (s *Stream) Kept() int { return 0 }

// States tells how many states are kept (P9).
func (s *Stream) States() int { return 0 }

// Run looks for a pattern in what a source gives (P11).
func Run(pattern string, o api.Options, pieces []api.Piece, most int) (api.Tale, api.Errno) {
	return api.Tale{}, api.OK
}
