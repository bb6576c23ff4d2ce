package pso

import (
	"sluice/api"
	"sluice/sc"
	"sluice/tso"
)

// passing is a memory with buffers in which a thread's stores that wait pass those into other words.
// No store passes a lock that waits to become free, nor does that pass a store: what is done under a lock stays there.
type passing struct {
	*tso.Buffered
}

// newPassing is the memory of a program ahead of its first step.
func newPassing(p api.Program) *passing {
	return &passing{tso.NewBuffered(p)}
}

func (m *passing) Waiting(thread int, tell func(place int)) {
	ahead := map[int]struct{}{} // the words of the stores that wait ahead
	for place, into := range m.Into(thread) {
		if into.Lock {
			if place == 0 {
				tell(place)
			}
			return
		}
		if _, is := ahead[into.Number]; !is {
			tell(place)
		}
		ahead[into.Number] = struct{}{}
	}
}

func (m *passing) Clone() sc.Memory {
	return &passing{m.Copy()}
}
