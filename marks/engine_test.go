package marks

import (
	"testing"

	"trawl/api"
	"trawl/machine"
	"trawl/syntax"
	"trawl/threads"
)

func machineOf(t *testing.T, pattern string) machine.Machine {
	t.Helper()
	p, e, _ := syntax.Read(pattern)
	if e != api.OK {
		t.Fatalf("%q: %d", pattern, e)
	}
	return machine.New(p)
}

var patterns = []string{``, `a`, `ab|a`, `a*b|c`, `(?:a|b)*c`, `[ab]*a[ab]{4}c`, `\ba+\b|b`, `(?i:aB)?.`, `^a|b$|é`, `(a|ab)(c|bcd)?`, `a{2,5}?c`}

const text = "abcaabbcabacba é-abababccbaaab\nABab aéa" + "abbabaaabbbababcabbbaaabab"

// TestLikeThreads goes over a text step by step, beginning anew where no thread goes on and every so many steps, and holds what is told against the threads themselves.
func TestLikeThreads(t *testing.T) {
	for _, pattern := range patterns {
		m := machineOf(t, pattern)
		for most := range 12 {
			e, other := NewEngine(m, most+1), threads.NewEngine(m)
			steps := 0
			for place, c := range text + text {
				start, done := e.Step(place, c)
				wantStart, wantDone := other.Step(place, c)
				first, ok := e.First()
				wantFirst, wantOk := other.First()
				if done != wantDone || done && start != wantStart || ok != wantOk || ok && first != wantFirst {
					t.Fatalf("%q, %d states: at %d: %d, %v, then %d, %v, want %d, %v, then %d, %v", pattern, most+1, place, start, done, first, ok, wantStart, wantDone, wantFirst, wantOk)
				}
				if steps++; !ok || steps%17 == 0 {
					e.Begin(c)
					other.Begin(c)
				}
			}
		}
	}
}

// TestStatesAreForgotten counts all states that can be come to from those that are kept: none may be left that is not counted by States.
func TestStatesAreForgotten(t *testing.T) {
	for _, pattern := range patterns {
		m := machineOf(t, pattern)
		for most := 1; most < 12; most++ {
			e := NewEngine(m, most)
			for place, c := range text {
				e.Step(place, c)
				if n := reachable(e); n != e.States() || n > most || n == 0 {
					t.Fatalf("%q: at %d there are %d states, %d are told, %d may be", pattern, place, n, e.States(), most)
				}
			}
		}
	}
}

func reachable(e *Engine) int {
	seen := map[*state]int{}
	var visit func(s *state)
	visit = func(s *state) {
		if _, had := seen[s]; had {
			return
		}
		seen[s] = len(seen)
		for _, step := range s.steps {
			if step != nil {
				visit(step.to)
			}
		}
	}
	visit(e.now)
	for _, s := range e.states {
		visit(s)
	}
	return len(seen)
}

// TestStatesAreFoundAgain goes over a text a second time: no state may be new.
func TestStatesAreFoundAgain(t *testing.T) {
	for _, pattern := range patterns {
		e := NewEngine(machineOf(t, pattern), 1000)
		counts := []int{}
		for range 3 {
			e.Begin(syntax.None)
			for place, c := range text {
				e.Step(place, c)
			}
			counts = append(counts, e.States())
		}
		if counts[1] != counts[0] || counts[2] != counts[0] {
			t.Errorf("%q: %v states", pattern, counts)
		}
	}
}

// TestClasses holds that no state and no edge tells runes of one class apart.
func TestClasses(t *testing.T) {
	m := machineOf(t, `[b-dx]|\d|.\b|é`)
	c := classesOf(m)
	last := map[int]rune{}
	for r := rune(0); r < 1000; r++ {
		class := c.of(r)
		if class < 0 || class >= c.number() {
			t.Fatalf("%q is of the class %d of %d", r, class, c.number())
		}
		ahead, had := last[class]
		last[class] = r
		if !had {
			continue
		}
		if syntax.Sample(r) != syntax.Sample(ahead) {
			t.Errorf("%q and %q are of one class, one is a word's", r, ahead)
		}
		for _, s := range m.States {
			if s.Set.Has(r) != s.Set.Has(ahead) {
				t.Errorf("%q and %q are of one class, and one state takes one of them", r, ahead)
			}
		}
	}
}
