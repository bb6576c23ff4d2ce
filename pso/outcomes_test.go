package pso_test

import (
	"fmt"
	"reflect"
	"slices"
	"strings"
	"testing"

	"sluice/api"
	"sluice/fence"
	"sluice/pso"
	"sluice/race"
	"sluice/space"
)

// of is a function that tells outcomes.
type of func(api.Program) ([]api.Outcome, api.Fault)

func outcomes(t *testing.T, p api.Program) []api.Outcome {
	t.Helper()
	list, f := pso.Outcomes(p)
	if f != (api.Fault{}) {
		t.Fatalf("%v: %v", p, f)
	}
	return list
}

// told writes outcomes as short texts: the status, the words, what is printed; an empty list may be nil or not.
func told(list []api.Outcome) string {
	var texts []string
	for _, o := range list {
		status := []string{"done", "fell", "stuck", "out"}[o.Status]
		texts = append(texts, fmt.Sprintf("%s %v %v", status, o.Words, o.Prints))
	}
	return strings.Join(texts, "; ")
}

// ends tells the outcomes of a program as a text, and whether anything is said of it.
func ends(t *testing.T, what of, p api.Program) (string, bool) {
	t.Helper()
	list, f := what(p)
	if f.Code != api.OK && (f != (api.Fault{Code: api.ErrFull}) || len(list) > 0) {
		t.Fatal(p, list, f)
	}
	return told(list), f.Code == api.OK
}

// R3: outcomes of one thread, in order, each once: of each kind.
func TestOutcomesOfOneThread(t *testing.T) {
	for _, x := range []struct{ orders, want string }{
		{"", "done [5 -6] []"},
		{"const 0 3; store 0 0; store 1 0; const 0 4; store 0 0; load 1 0; print 1", "done [4 3] [0 4]"},
		{"store 0 0; print 0; unlock 1", "fell [] [0 0]"},
		{"lock 0; unlock 0; unlock 0", "fell [] []"},
		{"const 0 2; store 0 0; store 1 0; loadat 1 0", "fell [] []"},
		{"lock 0; const 0 7; store 0 0; store 1 0; print 0; lock 0", "stuck [7 7] [0 7]"},
		{"lock 0; store 0 0; unlock 0; lock 0; lock 1", "done [0 -6] []"},
		{"store 0 0; store 1 0; jump 2", ""},
	} {
		if got := told(outcomes(t, program(t, "words 5 -6; locks 2; regs 2", x.orders))); got != x.want {
			t.Errorf("%s: %s, want %s", x.orders, got, x.want)
		}
	}
}

// R3: outcomes stand in the order of status, of words, of prints.
func TestOrderOfOutcomes(t *testing.T) {
	p := program(t, "words 9 9; locks 1; regs 2", "lock 0; store 0 0; store 1 0", "load 0 1; zero 0 7; print 0; load 0 0; zero 0 8; lock 0; jump 8; unlock 0; print 0")
	if got, want := told(outcomes(t, p)), "done [0 0] [1 9 1 0]; fell [] []; stuck [0 0] [1 9]; stuck [9 9] [1 9 1 9]"; got != want {
		t.Error(got)
	}
}

// R3: small programs that are known for what comes of them: what others have in words 2 and 3 at the end.
func TestKnown(t *testing.T) {
	one := "const 0 1; "
	look := "load 1 1; load 2 0; store 2 1; store 3 2"
	for _, x := range []struct {
		what, tso, more string // more is what comes beside what comes in chapter 3
		threads         []string
	}{
		{"a message", "00 01 11", "10", []string{one + "store 0 0; store 1 0", look}},
		{"a message with a fence", "00 01 11", "", []string{one + "store 0 0; fence; store 1 0", look}},
		{"a message with a cas", "00 01 11", "", []string{one + "store 0 0; cas 4 3 3; store 1 0", look}},
		{"a message behind a lock", "00 01 11", "", []string{"lock 0; " + one + "store 0 0; unlock 0; store 1 0", look}},
		{"a message ahead of a lock", "00 01 11", "10", []string{"lock 0; " + one + "store 0 0; store 1 0; unlock 0", look}},
		{"a message under a lock", "00 11", "", []string{"lock 0; " + one + "store 0 0; store 1 0; unlock 0", "lock 0; load 1 1; load 2 0; unlock 0; store 2 1; store 3 2"}},
		{"a message, and the way of the other one", "00 01 11", "10", []string{one + "store 0 0; store 1 0", "load 1 1; fence; load 2 0; store 2 1; store 3 2"}},
		{"into one word", "00 01 02 11 12 22", "", []string{one + "const 1 2; store 0 0; store 0 1", "load 1 0; load 2 0; store 2 1; store 3 2"}},
		{"store buffering", "00 10 01 11", "", []string{one + "store 0 0; load 1 1; store 2 1", one + "store 1 0; load 1 0; store 3 1"}},
		{"loads ahead of stores", "00 01 10", "", []string{"load 1 1; " + one + "store 0 0; store 2 1", "load 1 0; " + one + "store 1 0; store 3 1"}},
	} {
		p := program(t, "words 0 0 7 7 0; locks 1; regs 4", x.threads...)
		last := func(list []api.Outcome) []string {
			var texts []string
			for _, o := range list {
				if o.Status != api.Done {
					t.Error(x.what, o)
				}
				texts = append(texts, fmt.Sprint(o.Words[2])+fmt.Sprint(o.Words[3]))
			}
			slices.Sort(texts)
			return slices.Compact(texts)
		}
		before := strings.Fields(x.tso)
		all := append(strings.Fields(x.more), before...)
		slices.Sort(before)
		slices.Sort(all)
		if list, f := space.TSO(p); f.Code != api.OK || !slices.Equal(last(list), before) {
			t.Error(x.what, list, f)
		}
		if got := last(outcomes(t, p)); !slices.Equal(got, all) {
			t.Error(x.what, got, all)
		}
	}
}

// R3: MaxStates states are not too many, one more is: with those that stores make by passing each other.
func TestMaxStates(t *testing.T) {
	fences := func(n int) string { return strings.Repeat("fence; ", n) }
	for _, x := range []struct {
		what, orders string
		states       int    // of the first thread alone
		some, more   [2]int // how many fences two other threads have
	}{
		// 1, 2 and 4 states behind so many stores, and 1 behind the fence.
		{"of two words", "store 0 0; store 1 0; fence", 8, [2]int{19, 24}, [2]int{19, 25}},
		{"of one word", "store 0 0; store 0 0; fence", 7, [2]int{18, 29}, [2]int{21, 25}},
		{"of three words", "store 0 0; store 1 0; store 2 0; fence", 16, [2]int{9, 24}, [2]int{9, 25}},
		{"with a lock", "lock 0; store 0 0; unlock 0; store 1 0; fence", 12, [2]int{8, 36}, [2]int{1, 166}},
	} {
		with := func(n [2]int) api.Program {
			return program(t, "words 0 0 0; locks 1; regs 1", x.orders, fences(n[0]), fences(n[1]))
		}
		if _, n := came(with([2]int{}), 4000); n != x.states {
			t.Error(x.what, n, x.states)
		}
		if got, is := ends(t, pso.Outcomes, with(x.some)); !is || got != "done [0 0 0] []" {
			t.Error(x.what, got)
		}
		if got, is := ends(t, pso.Outcomes, with(x.more)); is {
			t.Error(x.what, "too many:", got)
		}
	}
	p := program(t, "words 0; locks 0; regs 2", "const 1 1; add 0 0 1; jump 1", "store 0 0")
	if got, is := ends(t, pso.Outcomes, p); is {
		t.Error("without end:", got)
	}
}

// R3: of many programs it is what the second writing says, each kind of end among them; each outcome of TSO is one of them.
func TestOutcomesAgainstOracle(t *testing.T) {
	d := dice(3)
	m := &maker{&d, 2, 2, []int{api.OpStore, api.OpStore, api.OpStore, api.OpLoad, api.OpLoad, api.OpPrint, api.OpConst, api.OpLock, api.OpUnlock}}
	full, more := 0, 0
	var kinds [4]int
	for n := range 300 {
		p := m.program(3, 6)
		if n%3 > 0 {
			p = m.sending()
		}
		list, f := pso.Outcomes(p)
		other, states := came(p, api.MaxStates)
		if states > api.MaxStates {
			full++
			if f != (api.Fault{Code: api.ErrFull}) || len(list) > 0 {
				t.Fatal(p, list, f)
			}
			continue
		}
		if f != (api.Fault{}) || told(list) != told(other) {
			t.Fatal(p, f, told(list), told(other))
		}
		for _, o := range list {
			kinds[o.Status]++
		}
		more += beyond(t, p, list)
	}
	if full < 5 || more < 20 || kinds[api.Done] < 100 || kinds[api.Fell] < 40 || kinds[api.Stuck] < 20 || kinds[api.Out] > 0 {
		t.Error("few of a kind:", full, more, kinds)
	}
}

// beyond tells 1 if the list has more than TSO, all of which it has to have.
func beyond(t *testing.T, p api.Program, list []api.Outcome) int {
	t.Helper()
	before, f := space.TSO(p)
	if f.Code != api.OK {
		t.Fatal(p, f)
	}
	for _, o := range before {
		if !slices.ContainsFunc(list, func(w api.Outcome) bool { return reflect.DeepEqual(o, w) }) {
			t.Fatal(p, "is missing:", o, told(list))
		}
	}
	if len(list) > len(before) {
		return 1
	}
	return 0
}

// R3: a program without clashes has the outcomes of SC.
func TestWithoutClashes(t *testing.T) {
	d := dice(4)
	m := &maker{&d, 2, 2, []int{api.OpStore, api.OpStore, api.OpLoad, api.OpPrint, api.OpLock, api.OpLock, api.OpUnlock}}
	said, several := 0, 0
	var kinds [4]int
	for n := range 500 {
		p := m.guarded()
		if n%5 == 0 {
			p = m.program(3, 6)
		}
		clashes, f := race.Find(p)
		if f.Code != api.OK || len(clashes) > 0 {
			continue
		}
		list, g := space.SC(p)
		came, is := ends(t, pso.Outcomes, p)
		if g.Code != api.OK || !is {
			continue
		}
		said++
		if told(list) != came {
			t.Fatal(p, told(list), came)
		}
		if len(list) > 1 {
			several++
		}
		for _, o := range list {
			kinds[o.Status]++
		}
	}
	if said < 200 || several < 100 || kinds[api.Done] < 100 || kinds[api.Fell] < 50 || kinds[api.Stuck] < 50 {
		t.Error("few of a kind:", said, several, kinds)
	}
}

// R3: what Full makes of any program has, by this machine, the outcomes of SC of that program.
func TestFull(t *testing.T) {
	d := dice(5)
	m := &maker{&d, 2, 2, []int{api.OpStore, api.OpStore, api.OpStore, api.OpLoad, api.OpLoad, api.OpPrint, api.OpConst, api.OpLock, api.OpUnlock}}
	said, seen := 0, 0
	for n := range 300 {
		p := m.program(3, 6)
		if n%3 > 0 {
			p = m.sending()
		}
		q, f := fence.Full(p)
		if f.Code != api.OK {
			t.Fatal(p, f)
		}
		plain, one := ends(t, space.SC, p)
		full, two := ends(t, pso.Outcomes, q)
		if !one || !two {
			continue
		}
		said++
		if plain != full {
			t.Fatal(p, plain, full)
		}
		if without, is := ends(t, pso.Outcomes, p); is && without != plain {
			seen++
		}
	}
	if said < 150 || seen < 40 {
		t.Error("few of a kind:", said, seen)
	}
}

// R1, R2: many programs, by many scripts, come to what the second writing says; each end is among them.
func TestRunAgainstOracle(t *testing.T) {
	d := dice(1)
	m := &maker{&d, 3, 2, []int{api.OpStore, api.OpStore, api.OpStore, api.OpStore, api.OpLoad, api.OpPrint, api.OpPrint, api.OpConst, api.OpLock, api.OpUnlock}}
	var ends [4]int
	for range 4000 {
		p := m.program(4, 12)
		for range 5 {
			script := make([]int, d.below(40))
			for i := range script {
				script[i] = d.below(2000) - 1000
			}
			got := run(t, p, script...)
			ends[got.Status]++
			if other := ran(p, script); !alike(got, other) {
				t.Fatalf("%v by %v: %v, want %v", p, script, got, other)
			}
		}
	}
	for status, n := range ends {
		if n < 50 {
			t.Error("few runs that end so:", status, ends)
		}
	}
}
