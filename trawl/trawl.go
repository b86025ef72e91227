// Package trawl: patterns looked for in a stream of bytes, as it comes: see DOC.md.
package trawl

import (
	"trawl/api"
	"trawl/machine"
	"trawl/syntax"
	"trawl/whole"
)

// Check tells whether a string is a pattern, and if not, where (P3).
func Check(pattern string) (api.Errno, int) {
	_, e, place := syntax.Read(pattern)
	return e, place
}

// Names tells the names of a pattern's groups (P4).
func Names(pattern string) ([]string, api.Errno) {
	p, e, _ := syntax.Read(pattern)
	if e != api.OK {
		return nil, e
	}
	return p.Names(), api.OK
}

// Find tells the events of a whole text (P5).
func Find(pattern string, text string) ([]api.Event, api.Errno) {
	p, e, _ := syntax.Read(pattern)
	if e != api.OK {
		return nil, e
	}
	return whole.All(machine.New(p), text), api.OK
}
