package sc

import (
	"slices"

	"sluice/api"
)

// thread is where one stands, and what its registers hold.
type thread struct {
	code []api.Instr
	at   int
	regs []int
}

// State is where a run stands; what its threads share is in the memory.
type State struct {
	Memory
	threads []thread
	prints  []int
}

// Begin is the state of a program that Check has let pass, ahead of its first step, in the memory that is given.
func Begin(p api.Program, m Memory) *State {
	s := &State{Memory: m}
	for _, code := range p.Code {
		s.threads = append(s.threads, thread{code: code, regs: make([]int, p.Regs)})
	}
	return s
}

func (t *thread) ended() bool {
	return t.at == len(t.code)
}

// able tells whether the thread has a next order, and can do it now.
func (s *State) able(who int) bool {
	t := &s.threads[who]
	return !t.ended() && s.Able(who, t.code[t.at])
}

// Rest tells how a run ends where nothing can be picked any more.
func (s *State) Rest() int {
	for i := range s.threads {
		if !s.threads[i].ended() {
			return api.Stuck
		}
	}
	return api.Done
}

// Prints tells what was printed so far, as a list of its own.
func (s *State) Prints() []int {
	return slices.Clone(s.prints)
}

// Clone is the same state, which goes on by itself: a step of one changes nothing of the other.
func (s *State) Clone() *State {
	threads := slices.Clone(s.threads)
	for i := range threads {
		threads[i].regs = slices.Clone(threads[i].regs)
	}
	return &State{Memory: s.Memory.Clone(), threads: threads, prints: slices.Clone(s.prints)}
}

// Tell hands on numbers that are all that the state is: two states of a program are the same where these are.
func (s *State) Tell(tell func(number int)) {
	for i := range s.threads {
		tell(s.threads[i].at)
		tellAll(s.threads[i].regs, tell)
	}
	s.Memory.Tell(tell)
	// There may be any number of these, so they stand last.
	tellAll(s.prints, tell)
}

func tellAll(numbers []int, tell func(number int)) {
	for _, n := range numbers {
		tell(n)
	}
}

// Pick is a step that can come next: a thread's next order, or what waits of the thread's at a place.
type Pick struct{ thread, place int }

// nextOrder stands where a pick has no place, as it is of an order.
const nextOrder = -1

// Picks tells all that can come next: thread by thread its next order, then what waits of it.
func (s *State) Picks() []Pick {
	var list []Pick
	for i := range s.threads {
		if s.able(i) {
			list = append(list, Pick{i, nextOrder})
		}
		s.Waiting(i, func(place int) {
			list = append(list, Pick{i, place})
		})
	}
	return list
}

// Touch is of a thread that is able: where it stands, what its next order does, and the word that this touches.
type Touch struct{ Thread, At, Op, Word int }

// Touches tells, thread by thread, which words can be touched next; an order of no word touches none.
func (s *State) Touches() []Touch {
	var list []Touch
	for i := range s.threads {
		if !s.able(i) {
			continue
		}
		t := &s.threads[i]
		order := t.code[t.at]
		if word, is := wordOf(order, t.regs); is && s.Has(word) {
			list = append(list, Touch{i, t.at, order.Op, word})
		}
	}
	return list
}

// Do takes a step that Picks tells, and tells whether the run goes on; if not, it falls.
func (s *State) Do(p Pick) bool {
	if p.place == nextOrder {
		return s.step(p.thread)
	}
	s.Finish(p.thread, p.place)
	return true
}
