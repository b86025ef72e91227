package trawl

import (
	"trawl/api"
	"trawl/flow"
	"trawl/machine"
	"trawl/syntax"
)

// Stream looks for a pattern in bytes that come part by part.
type Stream struct {
	self *Stream // that Open made: a copy of a Stream is none
	flow *flow.Flow
}

// Open makes a Stream (P6).
func Open(pattern string, o api.Options) (*Stream, api.Errno) {
	p, e, _ := syntax.Read(pattern)
	switch {
	case e != api.OK:
		return nil, e
	case !mayBe(o):
		return nil, api.ErrOptions
	}
	s := &Stream{flow: flow.New(machine.New(p), o)}
	s.self = s
	return s, api.OK
}

func mayBe(o api.Options) bool {
	return 0 <= o.Engine && o.Engine <= 2 && 2 <= o.Cache && o.Cache <= api.MaxCache && 0 <= o.Window && o.Window <= api.MaxWindow
}

// Feed takes bytes, and tells the events that are certain by now (P7, P8, P10).
func (s *Stream) Feed(part []byte) ([]api.Event, api.Errno) {
	return guarded(s, func(f *flow.Flow) ([]api.Event, api.Errno) { return f.Feed(part) })
}

// Close tells the rest of the events (P7, P10).
func (s *Stream) Close() ([]api.Event, api.Errno) {
	return guarded(s, func(f *flow.Flow) ([]api.Event, api.Errno) {
		s.flow = nil
		return f.Close()
	})
}

// Kept tells how many bytes are kept (P9).
func (s *Stream) Kept() int {
	n, _ := guarded(s, func(f *flow.Flow) (int, api.Errno) { return f.Kept(), api.OK })
	return n
}

// States tells how many states are kept (P9).
func (s *Stream) States() int {
	n, _ := guarded(s, func(f *flow.Flow) (int, api.Errno) { return f.States(), api.OK })
	return n
}

// guarded makes a call on what an open Stream has. A panic inside closes the Stream: nobody knows in what state it was left.
func guarded[T any](s *Stream, call func(*flow.Flow) (T, api.Errno)) (answer T, e api.Errno) {
	if s == nil || s.self != s || s.flow == nil {
		return answer, api.ErrClosed
	}
	defer func() {
		if recover() != nil {
			var nothing T
			s.flow = nil
			answer, e = nothing, api.ErrClosed
		}
	}()
	return call(s.flow)
}
