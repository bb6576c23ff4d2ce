package hist_test

import (
	"fmt"
	"math"
	"slices"
	"testing"

	"sluice/api"
	"sluice/hist"
)

func may(t *testing.T, words []int, list []api.Event) bool {
	t.Helper()
	is, f := hist.May(words, list)
	if f != (api.Fault{}) {
		t.Fatalf("%v, %s: %v", words, told(list), f)
	}
	return is
}

// S2: small lists of events that are known to have been possible, or not. Words 0 and 1 hold 0, word 2 holds 7.
func TestMayKnown(t *testing.T) {
	for _, x := range []struct {
		what, events string
		want         bool
	}{
		{"nothing", "", true},
		{"what words say", "0L0=0 0L2=7", true},
		{"what words say of another", "0L2=0", false},
		{"what words do not say", "0L0=7", false},
		{"a store alone", "0S0=5", true},
		{"its own store", "0S0=1 0L0=1", true},
		{"not its own store", "0S0=1 0L0=0", false},
		{"its own store behind it", "0L0=1 0S0=1", false},
		{"its own last store", "0S0=1 0S0=2 0L0=2", true},
		{"its own store but the last", "0S0=1 0S0=2 0L0=1", false},
		{"a store into another word", "0S1=1 0L0=0 0L1=1", true},
		{"a store into another word is not loaded", "0S1=1 0L0=1", false},
		{"another one's store", "0S0=1 1L0=1", true},
		{"another one's store that stands behind", "1L0=1 0S0=1", true},
		{"ahead of another one's store", "0S0=1 1L0=0", true},
		{"ahead of it and behind it", "0S0=1 1L0=0 1L0=1", true},
		{"behind it and ahead of it", "0S0=1 1L0=1 1L0=0", false},
		{"nobody's store", "0S0=1 1S0=2 2L0=3", false},
		{"two stores, in order", "0S0=1 0S0=2 1L0=1 1L0=2", true},
		{"two stores, not in order", "0S0=1 0S0=2 1L0=2 1L0=1", false},
		{"the same number again", "0S0=1 0S0=2 0S0=1 1L0=2 1L0=1", true},
		{"back to what words say", "0S0=1 0S0=0 1L0=1 1L0=0", true},
		{"two stores of two threads, seen in both orders", "0S0=1 1S0=2 2L0=1 2L0=2 3L0=2 3L0=1", false},
		{"two stores of two threads, seen in one order", "0S0=1 1S0=2 2L0=1 2L0=2 3L0=1 3L0=2", true},
		{"each sees the other's", "0S0=1 0L0=2 1S0=2 1L0=1", false},
		{"one sees the other's", "0S0=1 0L0=2 1S0=2 1L0=2", true},
		{"store buffering", "0S0=1 0L1=0 1S1=1 1L0=0", false},
		{"store buffering, the first one first", "0S0=1 0L1=0 1S1=1 1L0=1", true},
		{"store buffering, the second one first", "0S0=1 0L1=1 1S1=1 1L0=0", true},
		{"store buffering, both", "0S0=1 0L1=1 1S1=1 1L0=1", true},
		{"a message", "0S0=1 0S1=1 1L1=1 1L0=1", true},
		{"a message that is not there", "0S0=1 0S1=1 1L1=1 1L0=0", false},
		{"no message yet", "0S0=1 0S1=1 1L1=0 1L0=0", true},
		{"no message yet, or just now", "0S0=1 0S1=1 1L1=0 1L0=1", true},
		{"loads ahead of stores", "0L1=1 0S0=1 1L0=1 1S1=1", false},
		{"one load ahead of its store", "0L1=0 0S0=1 1L0=1 1S1=1", true},
		{"a message by two", "0S0=1 1L0=1 1S1=1 2L1=1 2L0=1", true},
		{"a message by two that is not there", "0S0=1 1L0=1 1S1=1 2L1=1 2L0=0", false},
		{"two that look", "0S0=1 1S1=1 2L0=1 2L1=0 3L1=1 3L0=0", false},
		{"two that look, one of them later", "0S0=1 1S1=1 2L0=1 2L1=0 3L1=1 3L0=1", true},
		{"two take the same", "0L0=0 0S0=1 1L0=0 1S0=1", true},
		{"both orders come to the same numbers of events", "0S0=1 0S1=1 1S0=2 1S2=1 2L1=1 2L2=1 2L0=1", true},
		{"both orders, the other one", "0S0=1 0S1=1 1S0=2 1S2=1 2L1=1 2L2=1 2L0=2", true},
		{"both orders, neither", "0S0=1 0S1=1 1S0=2 1S2=1 2L1=1 2L2=1 2L0=0", false},
		{"stores of what words say, and of another number", "0S0=0 1S0=5 1L0=0 0L0=0", true},
		{"the last thread", "3S0=-1 3L0=-1 0L0=-1", true},
	} {
		list := events(t, x.events)
		if told(list) != x.events {
			t.Fatal(x.events, told(list))
		}
		if got := may(t, []int{0, 0, 7}, list); got != x.want {
			t.Errorf("%s: %v", x.what, got)
		}
	}
}

// S2: threads stand by their number, wherever their events stand among the others', and any thread may be any other.
func TestMayWhicheverThread(t *testing.T) {
	for _, x := range []struct {
		events string
		want   bool
	}{
		{"0S0=1 0L1=0 1S1=1 1L0=0", false}, {"0S0=1 0L1=0 1S1=1 1L0=1", true},
		{"0S0=1 0S1=1 1L1=1 1L0=0", false}, {"0S0=1 0S1=1 1L1=1 1L0=1", true},
	} {
		list := events(t, x.events)
		for _, places := range [][4]int{{0, 1, 2, 3}, {2, 3, 0, 1}, {0, 2, 1, 3}, {2, 0, 3, 1}, {0, 2, 3, 1}, {2, 0, 1, 3}} {
			for first := range api.MaxThreads {
				for second := range api.MaxThreads {
					if first == second {
						continue
					}
					var row []api.Event
					for _, at := range places {
						e := list[at]
						e.Thread = [2]int{first, second}[e.Thread]
						row = append(row, e)
					}
					if got := may(t, []int{0, 0}, row); got != x.want {
						t.Error(told(row), got)
					}
				}
			}
		}
	}
}

// S2: any number may be loaded or stored, and any of MaxWords words hold it.
func TestMayNumbers(t *testing.T) {
	words := make([]int, api.MaxWords)
	words[63], words[0] = math.MinInt, math.MaxInt
	for _, n := range []int{0, 1, -1, math.MaxInt, math.MinInt} {
		for _, word := range []int{0, 1, 62, 63} {
			load := fmt.Sprintf("1L%d=%d", word, n)
			if got := may(t, words, events(t, load)); got != (words[word] == n) {
				t.Error(load, got)
			}
			if !may(t, words, events(t, fmt.Sprintf("0S%d=%d ", word, n)+load)) {
				t.Error("stored:", load)
			}
			if other := (word + 1) % 64; words[word] != n && may(t, words, events(t, fmt.Sprintf("0S%d=%d ", other, n)+load)) {
				t.Error("stored into another one:", load)
			}
		}
	}
}

// S2: MaxEvents events are not too many, of whichever threads; an order of them may have to be looked for far back.
func TestMayMany(t *testing.T) {
	for _, x := range []struct {
		what, events string
		want         bool
	}{
		{"one thread's", "2S0=1 2L0=1 2S0=2 2L0=2 2S0=3 2L0=3 2S1=4 2L1=4 2S1=5 2L1=5 2L0=3 2L1=5", true},
		{"one thread's, the last one wrong", "2S0=1 2L0=1 2S0=2 2L0=2 2S0=3 2L0=3 2S1=4 2L1=4 2S1=5 2L1=5 2L0=3 2L1=4", false},
		{"four threads', each behind the next one's", "0L0=3 0S1=1 0S0=4 1L0=2 1S1=2 1S0=3 2L0=1 2S1=3 2S0=2 3L1=0 3S1=4 3S0=1", true},
		{"four threads', in a ring", "0L0=3 0S1=1 0S0=4 1L0=2 1S1=2 1S0=3 2L0=1 2S1=3 2S0=2 3L0=4 3S1=4 3S0=1", false},
		{"stores that none sees", "0S0=1 0S0=2 0S0=3 1S0=4 1S0=5 1S0=6 2S0=7 2S0=8 2S0=9 3S0=1 3S0=2 3S0=3", true},
		{"each word's store of another thread seen last", "0S0=1 0S1=2 0S1=3 1S0=4 1S1=5 1S1=6 2S0=7 2S1=8 2S1=9 3L1=9 3L1=3 3L0=7", true},
		{"a store seen behind another one's", "0S0=1 0S1=2 0S1=3 1S0=4 1S1=5 1S1=6 2S0=7 2S1=8 2S1=9 3L0=7 3L1=3 3L0=1", true},
		{"a store that was ahead seen behind another one's", "0S0=1 0S1=2 0S1=3 1S0=4 1S1=5 1S1=6 2S0=7 2S1=8 2S1=9 3L1=3 3L0=7 3L0=1", false},
	} {
		list := events(t, x.events)
		if len(list) != api.MaxEvents {
			t.Fatal(x.what, len(list))
		}
		if got := may(t, []int{0, 0}, list); got != x.want {
			t.Errorf("%s: %v", x.what, got)
		}
	}
}

// S2: too many words or events, whatever is wrong beside that; else the first event that is none.
func TestMayRefuses(t *testing.T) {
	good := api.Event{Thread: 3, Word: 1, Kind: api.Store, Value: 4}
	never := api.Event{Thread: 3, Word: 1, Kind: api.Load, Value: 6}
	with := func(change func(e *api.Event)) api.Event {
		e := good
		change(&e)
		return e
	}
	for _, n := range []int{-1, 4, 5, math.MaxInt, math.MinInt} {
		bad := with(func(e *api.Event) { e.Thread = n })
		refuses(t, make([]int, 2), []api.Event{good, never, bad}, api.Fault{Code: api.ErrRange, At: 2})
	}
	for _, n := range []int{-1, 2, 3, 63, 64, math.MaxInt, math.MinInt} {
		bad := with(func(e *api.Event) { e.Word = n })
		refuses(t, make([]int, 2), []api.Event{good, bad, good}, api.Fault{Code: api.ErrRange, At: 1})
	}
	for _, n := range []int{0, -1, 3, 4, math.MaxInt, math.MinInt} {
		bad := with(func(e *api.Event) { e.Kind = n })
		refuses(t, make([]int, 2), []api.Event{bad}, api.Fault{Code: api.ErrRange})
		refuses(t, make([]int, 2), append(slices.Repeat([]api.Event{good}, 11), bad), api.Fault{Code: api.ErrRange, At: 11})
	}
	refuses(t, nil, []api.Event{{Kind: api.Load}}, api.Fault{Code: api.ErrRange})
	refuses(t, nil, []api.Event{{}}, api.Fault{Code: api.ErrRange})
	refuses(t, make([]int, 64), []api.Event{good, {Word: 64, Kind: api.Load}, {Word: 65}, {Thread: 7}}, api.Fault{Code: api.ErrRange, At: 1})
	size := api.Fault{Code: api.ErrSize}
	refuses(t, make([]int, 65), nil, size)
	refuses(t, make([]int, 65), []api.Event{{Thread: -1}}, size)
	refuses(t, make([]int, 64), slices.Repeat([]api.Event{good}, 13), size)
	refuses(t, nil, make([]api.Event, 13), size)
	refuses(t, make([]int, 1000), make([]api.Event, 100000), size)
	if !may(t, make([]int, 64), slices.Repeat([]api.Event{good}, 12)) || !may(t, nil, nil) {
		t.Error("refused")
	}
}

func refuses(t *testing.T, words []int, list []api.Event, want api.Fault) {
	t.Helper()
	if is, f := hist.May(words, list); is || f != want {
		t.Errorf("%d words, %v: %v, %v, want %v", len(words), list, is, f, want)
	}
}

// P3: words and events stay as they are, also behind their length, and what was asked ahead changes nothing.
func TestMayLeavesAlone(t *testing.T) {
	words := []int{0, 0, 9, 9}
	list := append(events(t, "0S0=1 0L1=0 1S1=1 1L0=0"), events(t, "2L1=1 2L1=5 2S0=3")...)
	before, rows := slices.Clone(words), slices.Clone(list)
	for range 3 {
		if may(t, words[:2], list[:4]) {
			t.Error("store buffering")
		}
		if !may(t, words[:2], list[:3]) || !may(t, words[:2], list[1:5]) || may(t, words[:2], list[1:6]) {
			t.Error("pieces of the list")
		}
		if !slices.Equal(words, before) || !slices.Equal(list, rows) {
			t.Fatal("changed:", words, list)
		}
	}
}
