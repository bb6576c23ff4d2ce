package hist

import (
	"slices"
	"testing"

	"sluice/api"
)

// A clone is a memory that tells as well, and goes on by itself.
func TestClone(t *testing.T) {
	var list []api.Event
	m := newTelling(api.Program{Words: []int{4, 5}, Locks: 1}, func(e api.Event) { list = append(list, e) })
	m.Store(0, 1, 6)
	m.Lock(2, 0)
	c := m.Clone()
	m.Store(0, 1, 7)
	if !c.Swap(3, 1, 6, 8) || c.Unlock(1, 0) || !c.Unlock(2, 0) {
		t.Error("not the same")
	}
	if !slices.Equal(m.Words(), []int{4, 7}) || !slices.Equal(c.Words(), []int{4, 8}) || m.Free(0) {
		t.Error("not by itself:", m.Words(), c.Words())
	}
	want := []api.Event{
		{Thread: 0, Word: 1, Kind: api.Store, Value: 6},
		{Thread: 0, Word: 1, Kind: api.Store, Value: 7},
		{Thread: 3, Word: 1, Kind: api.Load, Value: 6},
		{Thread: 3, Word: 1, Kind: api.Store, Value: 8},
	}
	if !slices.Equal(list, want) {
		t.Error(list)
	}
}
