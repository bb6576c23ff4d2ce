package space

import (
	"strconv"

	"sluice/api"
	"sluice/sc"
)

// Standing is where a run stands, as S; all that can come of it is by its picks.
type Standing[P, S any] interface {
	sc.Going[P]
	// Clone is the same, and goes on by itself.
	Clone() S
	// Tell hands on numbers that are all that it is: two of one program are the same where these are.
	Tell(tell func(number int))
	Words() []int
	Prints() []int
}

// Walk hands each state that can be come to from the first one on to see, once, and what is left of a run that falls to fell.
// It tells whether there are no more than MaxStates states; if there are more, not all of them were seen.
func Walk[P any, S Standing[P, S]](first S, see, fell func(s S)) bool {
	known := map[string]struct{}{}
	var open []S
	var text []byte
	come := func(s S) {
		text = appendText(text[:0], s.Tell)
		if _, is := known[string(text)]; !is {
			known[string(text)] = struct{}{}
			open = append(open, s)
		}
	}
	come(first)
	for len(open) > 0 && len(known) <= api.MaxStates {
		s := open[len(open)-1]
		open = open[:len(open)-1]
		see(s)
		follow(s, come, fell)
	}
	return len(known) <= api.MaxStates
}

// follow hands on what a state becomes by each step that can be picked.
func follow[P any, S Standing[P, S]](s S, come, fell func(s S)) {
	for _, pick := range s.Picks() {
		next := s.Clone()
		if next.Do(pick) {
			come(next)
		} else {
			fell(next)
		}
	}
}

// appendText puts a text of all the numbers that are told behind another one.
func appendText(text []byte, tellAll func(tell func(number int))) []byte {
	tellAll(func(number int) {
		text = append(strconv.AppendInt(text, int64(number), 10), ' ')
	})
	return text
}
