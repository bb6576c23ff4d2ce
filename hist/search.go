package hist

import "sluice/api"

// state is how many events of each thread there were and, behind these numbers, what each word holds then.
type state [api.MaxThreads + api.MaxWords]int

// begin is the state ahead of all events.
func begin(words []int) state {
	var s state
	copy(s[api.MaxThreads:], words)
	return s
}

// behind is the state behind the next event of a thread, and whether this event can come next.
func (s state) behind(e api.Event) (state, bool) {
	s[e.Thread]++
	holds := &s[api.MaxThreads+e.Word]
	if e.Kind == api.Load {
		return s, *holds == e.Value
	}
	*holds = e.Value
	return s, true
}

// search looks for an order of all events.
type search struct {
	rows [api.MaxThreads][]api.Event // of each thread, in its order
	// Many orders of the same events come to one state: it is looked at once.
	vain map[state]struct{}
}

func newSearch(events []api.Event) *search {
	s := &search{vain: map[state]struct{}{}}
	for _, e := range events {
		s.rows[e.Thread] = append(s.rows[e.Thread], e)
	}
	return s
}

// ends tells whether some order from here on ends with no event left.
func (s *search) ends(here state) bool {
	if _, is := s.vain[here]; is {
		return false
	}
	left := false
	for thread, row := range s.rows {
		done := here[thread]
		if done == len(row) {
			continue
		}
		left = true
		if next, can := here.behind(row[done]); can && s.ends(next) {
			return true
		}
	}
	if left {
		s.vain[here] = struct{}{}
	}
	return !left
}
