package space

import (
	"strconv"

	"sluice/api"
	"sluice/sc"
)

// Walk hands each state that can be come to from the first one on to see, once, and what is left of a run that falls to fell.
// It tells whether there are no more than MaxStates states; if there are more, not all of them were seen.
func Walk(first *sc.State, see, fell func(s *sc.State)) bool {
	known := map[string]struct{}{}
	var open []*sc.State
	var text []byte
	come := func(s *sc.State) {
		text = appendText(text[:0], s)
		if _, is := known[string(text)]; !is {
			known[string(text)] = struct{}{}
			open = append(open, s)
		}
	}
	come(first)
	for len(open) > 0 && len(known) <= api.MaxStates {
		s := open[len(open)-1]
		open = open[:len(open)-1]
		see(s)
		follow(s, come, fell)
	}
	return len(known) <= api.MaxStates
}

// follow hands on what a state becomes by each step that can be picked.
func follow(s *sc.State, come, fell func(s *sc.State)) {
	for _, pick := range s.Picks() {
		next := s.Clone()
		if next.Do(pick) {
			come(next)
		} else {
			fell(next)
		}
	}
}

// appendText puts a text of all that a state is behind another one.
func appendText(text []byte, s *sc.State) []byte {
	s.Tell(func(number int) {
		text = append(strconv.AppendInt(text, int64(number), 10), ' ')
	})
	return text
}
