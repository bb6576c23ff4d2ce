package sc

import (
	"slices"

	"sluice/api"
)

// Memory is what threads load from and store into, with the locks that they take.
// It is asked for words that it has, and for locks of the program, alone.
type Memory interface {
	// Has tells whether there is a word of this number.
	Has(word int) bool
	// Able tells whether the memory lets the thread do this order now.
	Able(thread int, order api.Instr) bool
	Load(thread, word int) int
	Store(thread, word, number int)
	// Swap makes the word hold to, if it holds from, and tells whether it did.
	Swap(thread, word, from, to int) bool
	// Lock is asked only where Able holds.
	Lock(thread, lock int)
	// Unlock tells whether the thread may free the lock; if not, the run falls.
	Unlock(thread, lock int) bool
	// Waiting hands to tell the places of what waits of the thread's and can be done now, in the order in which it waits.
	Waiting(thread int, tell func(place int))
	// Finish does what waits of the thread's at a place that Waiting tells.
	Finish(thread, place int)
	// Words tells what the words hold, as a list of its own.
	Words() []int
	// Clone is a memory of the same kind that is the same, and goes on by itself.
	Clone() Memory
	// Tell hands on numbers that are all that the memory is: two of a program, of one kind, are the same where these are.
	Tell(tell func(number int))
}

// free stands in place of a thread where nobody has taken a lock.
const free = -1

// Plain is a memory in which each store is done at once.
type Plain struct {
	words   []int
	holders []int // of each lock the thread that has taken it, or free
}

// NewPlain is the memory of a program ahead of its first step.
func NewPlain(p api.Program) *Plain {
	return &Plain{words: slices.Clone(p.Words), holders: slices.Repeat([]int{free}, p.Locks)}
}

func (m *Plain) Has(word int) bool {
	return word >= 0 && word < len(m.words)
}

func (m *Plain) Able(thread int, order api.Instr) bool {
	return order.Op != api.OpLock || m.Free(order.A)
}

// Free tells whether nobody has taken the lock.
func (m *Plain) Free(lock int) bool {
	return m.holders[lock] == free
}

func (m *Plain) Load(thread, word int) int {
	return m.words[word]
}

func (m *Plain) Store(thread, word, number int) {
	m.words[word] = number
}

func (m *Plain) Swap(thread, word, from, to int) bool {
	if m.words[word] != from {
		return false
	}
	m.words[word] = to
	return true
}

func (m *Plain) Lock(thread, lock int) {
	m.holders[lock] = thread
}

// Holds tells whether the thread has taken the lock, and it has not become free since.
func (m *Plain) Holds(thread, lock int) bool {
	return m.holders[lock] == thread
}

func (m *Plain) Unlock(thread, lock int) bool {
	if !m.Holds(thread, lock) {
		return false
	}
	m.holders[lock] = free
	return true
}

// Waiting tells nothing: what is done at once never waits.
func (m *Plain) Waiting(thread int, tell func(place int)) {}

func (m *Plain) Finish(thread, place int) {}

func (m *Plain) Words() []int {
	return slices.Clone(m.words)
}

// Copy is Clone for those who embed a plain memory, and need one again.
func (m *Plain) Copy() *Plain {
	return &Plain{words: slices.Clone(m.words), holders: slices.Clone(m.holders)}
}

func (m *Plain) Clone() Memory {
	return m.Copy()
}

func (m *Plain) Tell(tell func(number int)) {
	tellAll(m.words, tell)
	tellAll(m.holders, tell)
}
