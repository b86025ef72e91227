package flow

import (
	"strings"
	"testing"

	"trawl/api"
	"trawl/machine"
	"trawl/syntax"
)

// counter counts the steps of an engine.
type counter struct {
	engine
	steps int
}

func (c *counter) Step(place int, behind rune) (int, bool) {
	c.steps++
	return c.engine.Step(place, behind)
}

// TestStepsAreFew gives texts at whose end many matches become certain: the engine must not go over the rest for each of them.
func TestStepsAreFew(t *testing.T) {
	const length = 5000
	for _, pattern := range []string{`x*y|x`, `(x*y|x)`, `x(?:.*z)?`, `x*y|xx?`, `x*y|`, `x*?y|(x)`} {
		p, e, _ := syntax.Read(pattern)
		if e != api.OK {
			t.Fatalf("%q: %d", pattern, e)
		}
		for kind := range 3 {
			f := New(machine.New(p), api.Options{Engine: kind, Cache: 10})
			c := &counter{engine: f.engine}
			f.engine = c
			events := 0
			for range length {
				events += len(f.take([]byte("x")))
			}
			events += len(f.take([]byte("\n")))
			if events < length/2 || c.steps > 4*length {
				t.Errorf("%q, engine %d: %d steps for %d bytes and %d events", pattern, kind, c.steps, length, events)
			}
		}
	}
}

// TestKeptIsGivenBack holds that what is dropped is no longer in memory that the flow holds.
func TestKeptIsGivenBack(t *testing.T) {
	p, _, _ := syntax.Read(`a.*b`)
	f := New(machine.New(p), api.Options{Cache: 10})
	f.Feed([]byte("a" + strings.Repeat("x", 100000)))
	f.Feed([]byte("\na"))
	if f.Kept() != 1 || cap(f.kept) > 100 {
		t.Errorf("%d bytes are kept, in memory of %d", f.Kept(), cap(f.kept))
	}
}
