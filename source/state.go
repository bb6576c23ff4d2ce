package source

import (
	"slices"

	"sluice/api"
	"sluice/check"
	"sluice/sc"
)

// state is where a run stands; globals and locks are the words and locks of a memory in which nothing waits.
type state struct {
	*sc.Plain
	threads []thread
	prints  []int
}

// newState is that of a program ahead of its first mark.
func newState(p check.Program) *state {
	m := maker{Program: p, places: map[int]int{}}
	var memory api.Program
	var threads []thread
	for _, kid := range p.Nodes[len(p.Nodes)-1].Kids {
		switch n := p.Nodes[kid]; n.Kind {
		case api.NGlobal:
			m.places[kid] = len(memory.Words)
			memory.Words = append(memory.Words, n.Num)
		case api.NLock:
			m.places[kid] = memory.Locks
			memory.Locks++
		case api.NThread:
			threads = append(threads, m.thread(n.Kids[0]))
		}
	}
	return &state{Plain: sc.NewPlain(memory), threads: threads}
}

// able tells whether the thread stands at a mark that it can do now.
func (s *state) able(who int) bool {
	t := &s.threads[who]
	if !t.atMark() {
		return false
	}
	o := t.orders[t.at]
	return o.kind != take || s.Free(o.num)
}

// lost tells whether some thread went on for too long.
func (s *state) lost() bool {
	return slices.ContainsFunc(s.threads, func(t thread) bool { return t.lost() })
}

// Picks tells the threads that are able; none where the run is at its end since one of them is lost.
func (s *state) Picks() []int {
	if s.lost() {
		return nil
	}
	var list []int
	for who := range s.threads {
		if s.able(who) {
			list = append(list, who)
		}
	}
	return list
}

// Do lets a thread do its mark and go on to the next one, and tells whether the run goes on; if not, it falls.
func (s *state) Do(who int) bool {
	t := &s.threads[who]
	o := t.orders[t.at]
	t.at++
	switch o.kind {
	case read:
		t.push(s.Load(who, o.num))
	case write:
		s.Store(who, o.num, t.pop())
	case swap:
		to := t.pop()
		from := t.pop()
		t.push(sc.Truth(s.Swap(who, o.num, from, to)))
	case show:
		s.prints = append(s.prints, who, t.pop())
	case take:
		s.Lock(who, o.num)
	case give:
		if !s.Unlock(who, o.num) {
			return false
		}
	}
	t.goOn()
	return true
}

// Rest tells how a run ends where nothing can be picked any more.
func (s *state) Rest() int {
	if s.lost() {
		return api.Out
	}
	for i := range s.threads {
		if !s.threads[i].ended() {
			return api.Stuck
		}
	}
	return api.Done
}

// Prints tells what was printed so far, as a list of its own.
func (s *state) Prints() []int {
	return slices.Clone(s.prints)
}

// Clone is the same state, which goes on by itself.
func (s *state) Clone() *state {
	var threads []thread
	for i := range s.threads {
		threads = append(threads, s.threads[i].clone())
	}
	return &state{Plain: s.Copy(), threads: threads, prints: slices.Clone(s.prints)}
}

// Tell hands on numbers that are all that the state is: two states of a program are the same where these are.
func (s *state) Tell(tell func(number int)) {
	for i := range s.threads {
		s.threads[i].tell(tell)
	}
	s.Plain.Tell(tell)
	// There may be any number of these, so they stand last.
	for _, n := range s.prints {
		tell(n)
	}
}
