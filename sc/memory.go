package sc

import (
	"slices"

	"sluice/api"
)

// Memory is what threads load from and store into, with the locks that they take.
// It is asked for words that it has, and for locks of the program, alone.
type Memory interface {
	// Has tells whether there is a word of this number.
	Has(word int) bool
	// Able tells whether the memory lets the thread do this order now.
	Able(thread int, order api.Instr) bool
	Load(thread, word int) int
	Store(thread, word, number int)
	// Swap makes the word hold to, if it holds from, and tells whether it did.
	Swap(thread, word, from, to int) bool
	// Lock is asked only where Able holds.
	Lock(thread, lock int)
	// Unlock tells whether the thread may free the lock; if not, the run falls.
	Unlock(thread, lock int) bool
	// Words tells what the words hold, as a list of its own.
	Words() []int
}

// free stands in place of a thread where nobody has taken a lock.
const free = -1

// Plain is a memory in which each store is done at once.
type Plain struct {
	words   []int
	holders []int // of each lock the thread that has taken it, or free
}

// NewPlain is the memory of a program ahead of its first step.
func NewPlain(p api.Program) *Plain {
	return &Plain{words: slices.Clone(p.Words), holders: slices.Repeat([]int{free}, p.Locks)}
}

func (m *Plain) Has(word int) bool {
	return word >= 0 && word < len(m.words)
}

func (m *Plain) Able(thread int, order api.Instr) bool {
	return order.Op != api.OpLock || m.holders[order.A] == free
}

func (m *Plain) Load(thread, word int) int {
	return m.words[word]
}

func (m *Plain) Store(thread, word, number int) {
	m.words[word] = number
}

func (m *Plain) Swap(thread, word, from, to int) bool {
	if m.words[word] != from {
		return false
	}
	m.words[word] = to
	return true
}

func (m *Plain) Lock(thread, lock int) {
	m.holders[lock] = thread
}

func (m *Plain) Unlock(thread, lock int) bool {
	if m.holders[lock] != thread {
		return false
	}
	m.holders[lock] = free
	return true
}

func (m *Plain) Words() []int {
	return slices.Clone(m.words)
}
