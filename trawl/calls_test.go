package trawl

import (
	"math"
	"testing"

	"trawl/api"
)

// TestNoCallPanics goes through every call at odd arguments: that it comes to its end is what is asked (P1).
func TestNoCallPanics(t *testing.T) {
	for _, pattern := range []string{"", "a", "(", "\xff", times(1000, "(")} {
		Check(pattern)
		Names(pattern)
		Find(pattern, "\xffa")
		for _, n := range []int{math.MinInt, -1, 0, 1, math.MaxInt} {
			o := api.Options{Engine: n, Cache: n, Window: n}
			s, _ := Open(pattern, o)
			tryStream(s)
			Run(pattern, o, []api.Piece{{Data: "\xffa", Kind: n, Code: n}}, n)
		}
	}
	tryStream(nil)
	tryStream(new(Stream))
}

func tryStream(s *Stream) {
	for range 2 {
		s.Feed(nil)
		s.Feed([]byte("\xffa"))
		s.Kept()
		s.States()
		s.Close()
	}
}
