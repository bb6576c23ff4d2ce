package tso

import (
	"slices"

	"sluice/api"
	"sluice/sc"
)

// cell is what a store changes: the word of this number, or the lock.
type cell struct {
	lock   bool
	number int
}

// store is one that waits. Where a lock becomes free, becomes is 0, so that two of one lock are the same.
type store struct {
	into    cell
	becomes int
}

// Buffered is a memory in which the stores of each thread wait, first come, first done.
// A thread compares and swaps, and takes a lock, only while nothing of it waits: for these the plain memory is enough.
type Buffered struct {
	*sc.Plain
	buffers [][]store // of each thread, the first one first
}

// NewBuffered is the memory of a program ahead of its first step.
func NewBuffered(p api.Program) *Buffered {
	return &Buffered{Plain: sc.NewPlain(p), buffers: make([][]store, len(p.Code))}
}

func (m *Buffered) Able(thread int, order api.Instr) bool {
	waiting := len(m.buffers[thread])
	switch order.Op {
	case api.OpStore, api.OpStoreAt, api.OpUnlock:
		return waiting < api.MaxBuffer
	case api.OpFence, api.OpCas, api.OpLock:
		return waiting == 0 && m.Plain.Able(thread, order)
	}
	return true
}

// Load gives what the thread's own last store into the word says, while that waits.
func (m *Buffered) Load(thread, word int) int {
	for _, s := range slices.Backward(m.buffers[thread]) {
		if s.into == (cell{number: word}) {
			return s.becomes
		}
	}
	return m.Plain.Load(thread, word)
}

func (m *Buffered) Store(thread, word, number int) {
	m.put(thread, store{into: cell{number: word}, becomes: number})
}

// Unlock lets the lock wait to become free; who frees it twice ahead of that may not.
func (m *Buffered) Unlock(thread, lock int) bool {
	frees := store{into: cell{lock: true, number: lock}}
	if !m.Holds(thread, lock) || slices.Contains(m.buffers[thread], frees) {
		return false
	}
	m.put(thread, frees)
	return true
}

func (m *Buffered) put(thread int, s store) {
	m.buffers[thread] = append(m.buffers[thread], s)
}

// Waiting tells the first place alone: no store passes another one.
func (m *Buffered) Waiting(thread int, tell func(place int)) {
	if len(m.buffers[thread]) > 0 {
		tell(0)
	}
}

func (m *Buffered) Finish(thread, place int) {
	s := m.buffers[thread][place]
	m.buffers[thread] = slices.Delete(m.buffers[thread], place, place+1)
	if s.into.lock {
		m.Plain.Unlock(thread, s.into.number)
		return
	}
	m.Plain.Store(thread, s.into.number, s.becomes)
}
