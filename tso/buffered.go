package tso

import (
	"slices"

	"sluice/api"
	"sluice/sc"
)

// Cell is what a store changes: the word of this number, or the lock.
type Cell struct {
	Lock   bool
	Number int
}

// store is one that waits. Where a lock becomes free, becomes is 0, so that two of one lock are the same.
type store struct {
	into    Cell
	becomes int
}

// Buffered is a memory in which the stores of each thread wait, first come, first done.
// A thread compares and swaps, and takes a lock, only while nothing of it waits: for these the plain memory is enough.
type Buffered struct {
	*sc.Plain
	buffers [][]store // of each thread, the first one first
}

// NewBuffered is the memory of a program ahead of its first step.
func NewBuffered(p api.Program) *Buffered {
	return &Buffered{Plain: sc.NewPlain(p), buffers: make([][]store, len(p.Code))}
}

func (m *Buffered) Able(thread int, order api.Instr) bool {
	waiting := len(m.buffers[thread])
	switch order.Op {
	case api.OpStore, api.OpStoreAt, api.OpUnlock:
		return waiting < api.MaxBuffer
	case api.OpFence, api.OpCas, api.OpLock:
		return waiting == 0 && m.Plain.Able(thread, order)
	}
	return true
}

// Load gives what the thread's own last store into the word says, while that waits.
func (m *Buffered) Load(thread, word int) int {
	for _, s := range slices.Backward(m.buffers[thread]) {
		if s.into == (Cell{Number: word}) {
			return s.becomes
		}
	}
	return m.Plain.Load(thread, word)
}

func (m *Buffered) Store(thread, word, number int) {
	m.put(thread, store{into: Cell{Number: word}, becomes: number})
}

// Unlock lets the lock wait to become free; who frees it twice ahead of that may not.
func (m *Buffered) Unlock(thread, lock int) bool {
	frees := store{into: Cell{Lock: true, Number: lock}}
	if !m.Holds(thread, lock) || slices.Contains(m.buffers[thread], frees) {
		return false
	}
	m.put(thread, frees)
	return true
}

func (m *Buffered) put(thread int, s store) {
	m.buffers[thread] = append(m.buffers[thread], s)
}

// Into tells what the stores of the thread that wait are to change, the first one first, as a list of its own.
func (m *Buffered) Into(thread int) []Cell {
	var cells []Cell
	for _, s := range m.buffers[thread] {
		cells = append(cells, s.into)
	}
	return cells
}

// Waiting tells the first place alone: no store passes another one.
func (m *Buffered) Waiting(thread int, tell func(place int)) {
	if len(m.buffers[thread]) > 0 {
		tell(0)
	}
}

func (m *Buffered) Finish(thread, place int) {
	s := m.buffers[thread][place]
	m.buffers[thread] = slices.Delete(m.buffers[thread], place, place+1)
	if s.into.Lock {
		m.Plain.Unlock(thread, s.into.Number)
		return
	}
	m.Plain.Store(thread, s.into.Number, s.becomes)
}

// Copy is Clone for those who embed a memory with buffers, and need one again.
func (m *Buffered) Copy() *Buffered {
	buffers := slices.Clone(m.buffers)
	for i := range buffers {
		buffers[i] = slices.Clone(buffers[i])
	}
	return &Buffered{Plain: m.Plain.Copy(), buffers: buffers}
}

func (m *Buffered) Clone() sc.Memory {
	return m.Copy()
}

func (m *Buffered) Tell(tell func(number int)) {
	m.Plain.Tell(tell)
	for _, buffer := range m.buffers {
		// How many wait is told ahead of them, so that no two threads' buffers can be taken for one another.
		tell(len(buffer))
		for _, s := range buffer {
			tell(s.into.sign())
			tell(s.becomes)
		}
	}
}

// sign is a number of its own for each cell; words have none below 0.
func (c Cell) sign() int {
	if c.Lock {
		return -1 - c.Number
	}
	return c.Number
}
