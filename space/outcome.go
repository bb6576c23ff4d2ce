package space

import (
	"cmp"
	"slices"

	"sluice/api"
	"sluice/sc"
)

// Outcomes tells how runs of a program that Check has let pass can end, in the memory that is given: each once, in order.
// A thread may be longer than MaxCode here.
func Outcomes(p api.Program, m sc.Memory) ([]api.Outcome, api.Fault) {
	return Ends(sc.Begin(p, m))
}

// Ends tells how runs can end that go on from the first state: each once, in order.
func Ends[P any, S Standing[P, S]](first S) ([]api.Outcome, api.Fault) {
	var list []api.Outcome
	see := func(s S) {
		if len(s.Picks()) == 0 {
			list = append(list, api.Outcome{Status: s.Rest(), Words: s.Words(), Prints: s.Prints()})
		}
	}
	fell := func(s S) {
		list = append(list, api.Outcome{Status: api.Fell, Prints: s.Prints()})
	}
	if !Walk(first, see, fell) {
		return nil, api.Fault{Code: api.ErrFull}
	}
	slices.SortFunc(list, compare)
	return slices.CompactFunc(list, same), api.Fault{}
}

// compare tells which of two outcomes comes first, as a number below, of or above 0.
func compare(a, b api.Outcome) int {
	return cmp.Or(
		cmp.Compare(a.Status, b.Status),
		slices.Compare(a.Words, b.Words),
		slices.Compare(a.Prints, b.Prints),
	)
}

func same(a, b api.Outcome) bool {
	return compare(a, b) == 0
}

// Alike tells whether two lists of outcomes are the same.
func Alike(a, b []api.Outcome) bool {
	return slices.EqualFunc(a, b, same)
}
