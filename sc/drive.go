package sc

import "sluice/api"

// Going is where a run stands that goes on by steps, of which one is picked each time.
type Going[P any] interface {
	// Picks tells all steps that can come next.
	Picks() []P
	// Do takes a step that Picks tells, and tells whether the run goes on; if not, it falls.
	Do(pick P) bool
	// Rest tells how a run ends where nothing can be picked any more.
	Rest() int
}

// Drive goes on by the script until the run ends, and answers what end tells of that: how it ended, behind how many steps.
func Drive[P any](s Going[P], script []int, end func(status, steps int) api.Trace) api.Trace {
	numbers := Script(script)
	for steps := 0; ; steps++ {
		picks := s.Picks()
		switch {
		case len(picks) == 0:
			return end(s.Rest(), steps)
		case steps == api.MaxSteps:
			return end(api.Out, steps)
		case !s.Do(picks[numbers.Pick(len(picks))]):
			return end(api.Fell, steps+1)
		}
	}
}
