package fence

import (
	"iter"
	"slices"

	"sluice/api"
)

// letting tells the places of all orders that let something wait, rising.
func letting(p api.Program) []place {
	var list []place
	for thread, code := range p.Code {
		for at, order := range code {
			if letsWait(order.Op) {
				list = append(list, place{thread, at})
			}
		}
	}
	return list
}

// sets hands on each set of places that rise, as a list of its own: fewer places first, of as many the first list first.
func sets(places []place) iter.Seq[[]place] {
	return func(yield func([]place) bool) {
		for n := range len(places) + 1 {
			if !choose(nil, places, n, yield) {
				return
			}
		}
	}
}

// choose hands on what is taken with each n of the rest, and tells whether more is asked for.
func choose(taken, rest []place, n int, yield func([]place) bool) bool {
	if n == 0 {
		return yield(taken)
	}
	for i := range rest {
		if !choose(slices.Concat(taken, rest[i:i+1]), rest[i+1:], n-1, yield) {
			return false
		}
	}
	return true
}
