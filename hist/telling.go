package hist

import (
	"sluice/api"
	"sluice/sc"
)

// telling is a plain memory that tells what threads load from it and store into it.
type telling struct {
	*sc.Plain
	tell func(e api.Event)
}

// newTelling is the memory of a program ahead of its first step.
func newTelling(p api.Program, tell func(e api.Event)) *telling {
	return &telling{Plain: sc.NewPlain(p), tell: tell}
}

func (m *telling) Load(thread, word int) int {
	number := m.Plain.Load(thread, word)
	m.tell(api.Event{Thread: thread, Word: word, Kind: api.Load, Value: number})
	return number
}

func (m *telling) Store(thread, word, number int) {
	m.Plain.Store(thread, word, number)
	m.tell(api.Event{Thread: thread, Word: word, Kind: api.Store, Value: number})
}

// Swap is a load, also in vain, and a store only where it is not in vain.
func (m *telling) Swap(thread, word, from, to int) bool {
	is := m.Load(thread, word) == from
	if is {
		m.Store(thread, word, to)
	}
	return is
}

// Clone tells what is done to whom this one tells it.
func (m *telling) Clone() sc.Memory {
	return &telling{Plain: m.Copy(), tell: m.tell}
}
