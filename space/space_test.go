package space_test

import (
	"fmt"
	"reflect"
	"slices"
	"strconv"
	"strings"
	"testing"

	"sluice/api"
	"sluice/asm"
	"sluice/sc"
	"sluice/space"
	"sluice/tso"
)

// program is that of a text; orders of a thread are parted by "; ".
func program(t *testing.T, head string, threads ...string) api.Program {
	t.Helper()
	text := strings.ReplaceAll(head, "; ", "\n") + "\n"
	for _, orders := range threads {
		text += "thread\n"
		if orders != "" {
			text += strings.ReplaceAll(strings.Trim(orders, "; "), "; ", "\n") + "\n"
		}
	}
	p, f := asm.Parse(text)
	if f.Code != api.OK {
		t.Fatalf("%q: %v", text, f)
	}
	return p
}

// outcomes tells what the function answers of a program of which it says something.
func outcomes(t *testing.T, of func(api.Program) ([]api.Outcome, api.Fault), p api.Program) []api.Outcome {
	t.Helper()
	list, f := of(p)
	if f != (api.Fault{}) {
		t.Fatalf("%v: %v", p, f)
	}
	return list
}

func robust(t *testing.T, p api.Program) bool {
	t.Helper()
	is, f := space.Robust(p)
	if f != (api.Fault{}) {
		t.Fatalf("%v: %v", p, f)
	}
	return is
}

// told writes outcomes as short texts: the status, the words, what is printed; an empty list may be nil or not.
func told(list []api.Outcome) string {
	var texts []string
	for _, o := range list {
		status := []string{"done", "fell", "stuck", "out"}[o.Status]
		texts = append(texts, fmt.Sprintf("%s %v %v", status, o.Words, o.Prints))
	}
	return strings.Join(texts, "; ")
}

func want(t *testing.T, what any, list []api.Outcome, want string) {
	t.Helper()
	if got := told(list); got != want {
		t.Errorf("%v: %s, want %s", what, got, want)
	}
}

// D2: what a single thread comes to, with and without stores that wait: one outcome, of each kind.
func TestOneThread(t *testing.T) {
	head := "words 5 -6; locks 2; regs 2"
	for _, x := range []struct{ orders, want string }{
		{"", "done [5 -6] []"},
		{"const 0 3; store 1 0; load 1 1; print 1; print 0", "done [5 3] [0 3 0 3]"},
		{"const 0 3; store 1 0; const 0 4; store 1 0; store 0 0; store 1 0; const 0 5; store 1 0", "done [4 5] []"},
		{"unlock 0", "fell [] []"},
		{"store 0 0; print 0; unlock 1", "fell [] [0 0]"},
		{"lock 0; unlock 0; unlock 0", "fell [] []"},
		{"const 0 2; loadat 1 0", "fell [] []"},
		{"const 0 -1; storeat 0 1", "fell [] []"},
		{"lock 0; const 0 7; store 0 0; print 0; lock 0", "stuck [7 -6] [0 7]"},
		{"lock 0; unlock 0; lock 0; lock 1", "done [5 -6] []"},
		{"jump 0", ""},
		{"print 0; jump 1", ""},
		{"jump 1; jump 0", ""},
	} {
		p := program(t, head, x.orders)
		want(t, x.orders, outcomes(t, space.SC, p), x.want)
		want(t, x.orders, outcomes(t, space.TSO, p), x.want)
		if !robust(t, p) {
			t.Error("not robust:", x.orders)
		}
	}
	want(t, "no word", outcomes(t, space.SC, program(t, "words; locks 0; regs 1", "print 0")), "done [] [0 0]")
}

// D2: outcomes stand in the order of status, words, prints, number by number; what ends sooner is less; each is there once.
func TestOrder(t *testing.T) {
	for _, x := range []struct {
		what, head string
		threads    []string
		want       string
	}{
		{"words", "words 0 0; locks 0; regs 1", []string{"const 0 -3; store 0 0", "const 0 2; store 0 0", "const 0 10; store 0 0"}, "done [-3 0] []; done [2 0] []; done [10 0] []"},
		{"the second word", "words 0 0; locks 0; regs 1", []string{"const 0 10; store 1 0", "const 0 9; store 1 0"}, "done [0 9] []; done [0 10] []"},
		{"words ahead of prints", "words 0; locks 0; regs 2", []string{"const 0 2; load 1 0; store 0 0; print 1", "const 0 1; store 0 0"}, "done [1] [0 0]; done [2] [0 0]; done [2] [0 1]"},
		{"prints", "words; locks 0; regs 1", []string{"const 0 -9223372036854775808; print 0", "const 0 5; print 0"}, "done [] [0 -9223372036854775808 1 5]; done [] [1 5 0 -9223372036854775808]"},
		{"what ends sooner", "words 0; locks 0; regs 2", []string{"const 0 1; store 0 0", "load 1 0; zero 1 3; print 1; load 1 0; zero 1 6; print 1"}, "done [1] []; done [1] [1 1]; done [1] [1 1 1 1]"},
		{"status", "words 0; locks 2; regs 2", []string{"lock 0; load 0 0; zero 0 4; unlock 1; lock 1", "lock 1; const 0 1; store 0 0; lock 0; unlock 0; unlock 1"}, "fell [] []; stuck [0] []; stuck [1] []"},
		{"status ahead of words", "words 9; locks 1; regs 1", []string{"lock 0; store 0 0", "load 0 0; zero 0 4; lock 0; unlock 0; print 0"}, "done [0] [1 0]; done [0] [1 9]; stuck [0] []"},
		{"all kinds", "words 9; locks 1; regs 2", []string{"lock 0; store 0 0", "load 0 0; zero 0 6; print 0; lock 0; unlock 0; jump 7; unlock 0"}, "done [0] [1 9]; fell [] []; stuck [0] [1 9]"},
		{"once", "words 0; locks 0; regs 1", []string{"store 0 0; fence; store 0 0", "store 0 0; load 0 0", "const 0 0; move 0 0"}, "done [0] []"},
		{"falls once", "words 0; locks 1; regs 1", []string{"unlock 0", "unlock 0", "fence; fence; unlock 0"}, "fell [] []"},
		{"falls as it prints", "words 0; locks 1; regs 1", []string{"print 0; unlock 0", "print 0; unlock 0"}, "fell [] [0 0]; fell [] [0 0 1 0]; fell [] [1 0]; fell [] [1 0 0 0]"},
	} {
		p := program(t, x.head, x.threads...)
		want(t, x.what, outcomes(t, space.SC, p), x.want)
		if got := told(outcomes(t, space.TSO, p)); strings.Contains(x.what, "once") && got != x.want {
			t.Error(x.what, got)
		}
	}
}

// D2, D3: small programs that are known for what comes of them where stores wait, and where they do not.
func TestKnown(t *testing.T) {
	one := "const 0 1; "
	for _, x := range []struct {
		what, sc, more string // what TSO has beside what SC has
		threads        []string
	}{
		{"store buffering", "10 01 11", "00", []string{one + "store 0 0; load 1 1; store 2 1", one + "store 1 0; load 1 0; store 3 1"}},
		{"with one fence", "10 01 11", "00", []string{one + "store 0 0; fence; load 1 1; store 2 1", one + "store 1 0; load 1 0; store 3 1"}},
		{"with fences", "10 01 11", "", []string{one + "store 0 0; fence; load 1 1; store 2 1", one + "store 1 0; fence; load 1 0; store 3 1"}},
		{"with cas", "10 01 11", "", []string{one + "store 0 0; cas 5 3 3; load 1 1; store 2 1", one + "store 1 0; cas 5 3 3; load 1 0; store 3 1"}},
		{"with locks", "10 01 11", "", []string{one + "store 0 0; lock 0; unlock 0; load 1 1; store 2 1", one + "store 1 0; lock 1; unlock 1; load 1 0; store 3 1"}},
		{"under a lock", "10 01", "", []string{"lock 0; " + one + "store 0 0; load 1 1; unlock 0; store 2 1", "lock 0; " + one + "store 1 0; load 1 0; unlock 0; store 3 1"}},
		{"a message", "00 01 11", "", []string{one + "store 0 0; store 1 0", "load 1 1; load 2 0; store 2 1; store 3 2"}},
		{"loads ahead of stores", "00 01 10", "", []string{"load 1 1; " + one + "store 0 0; store 2 1", "load 1 0; " + one + "store 1 0; store 3 1"}},
		{"its own store", "11", "", []string{one + "store 0 0; load 1 0; store 2 1; load 1 0; store 3 1"}},
		{"its own store, then the other's", "10 01 11", "00", []string{one + "store 0 0; load 2 0; load 1 1; store 2 1", one + "store 1 0; load 2 1; load 1 0; store 3 1"}},
	} {
		p := program(t, "words 0 0 7 7 0 0; locks 2; regs 4", x.threads...)
		ends := func(list []api.Outcome) []string {
			var texts []string
			for _, o := range list {
				if o.Status != api.Done {
					t.Error(x.what, o)
				}
				texts = append(texts, fmt.Sprint(o.Words[2])+fmt.Sprint(o.Words[3]))
			}
			slices.Sort(texts)
			return texts
		}
		plain := strings.Fields(x.sc)
		waiting := append(strings.Fields(x.more), plain...)
		slices.Sort(plain)
		slices.Sort(waiting)
		if got := ends(outcomes(t, space.SC, p)); !slices.Equal(got, plain) {
			t.Error(x.what, got, plain)
		}
		if got := ends(outcomes(t, space.TSO, p)); !slices.Equal(got, waiting) {
			t.Error(x.what, got, waiting)
		}
		if robust(t, p) != (x.more == "") {
			t.Error(x.what, "robust", x.more != "")
		}
	}
}

// D3: what is unlike may be what is printed, the words, or how a run ends.
func TestRobust(t *testing.T) {
	head := "words 0 0; locks 1; regs 2"
	put := func(word int) string { return "const 0 1; store " + strconv.Itoa(word) + " 0; " }
	ask := func(word int) string { return "load 1 " + strconv.Itoa(word) + "; " }
	for _, x := range []struct {
		what    string
		threads []string
		want    bool
	}{
		{"prints", []string{put(0) + ask(1) + "print 1", put(1) + ask(0) + "print 1"}, false},
		{"nobody looks", []string{put(0) + ask(1), put(1) + ask(0)}, true},
		{"a wait without end", []string{put(0) + "load 1 1; zero 1 2", put(1) + "load 1 0; zero 1 2"}, true},
		{"who gets stuck", []string{"lock 0; " + put(0) + ask(1) + "zero 1 6; unlock 0", put(1) + ask(0) + "zero 1 5; jump 6; lock 0"}, false},
	} {
		p := program(t, head, x.threads...)
		is := robust(t, p)
		if is != x.want {
			t.Error(x.what, is, told(outcomes(t, space.SC, p)), "and", told(outcomes(t, space.TSO, p)))
		}
	}
}

// counts is a program whose single thread comes to so many states, by a loop of three orders and orders that do nothing.
func counts(t *testing.T, states int, last string) api.Program {
	t.Helper()
	// Ahead of and behind the first order there is a state each; each turn has three more, the last one two.
	turns := (states - 2 - 1) / 3
	nothing := states - 2 - (3*turns - 1)
	text := "const 0 " + strconv.Itoa(turns) + "; const 1 1; sub 0 0 1; zero 0 5; jump 2" + strings.Repeat("; fence", nothing-1)
	return program(t, "words; locks 1; regs 2", text+last)
}

// full tells which of the three functions say that there are too many states; what they answer is zero then.
func full(t *testing.T, p api.Program) [3]bool {
	t.Helper()
	plain, f := space.SC(p)
	waiting, g := space.TSO(p)
	is, h := space.Robust(p)
	if f.Code != api.OK && len(plain) > 0 || g.Code != api.OK && len(waiting) > 0 || h.Code != api.OK && is {
		t.Error("not zero:", plain, f, waiting, g, is, h)
	}
	var list [3]bool
	for i, fault := range []api.Fault{f, g, h} {
		list[i] = fault == api.Fault{Code: api.ErrFull}
		if !list[i] && fault != (api.Fault{}) {
			t.Error(p, fault)
		}
	}
	return list
}

var none, all = [3]bool{}, [3]bool{true, true, true}

// D1: MaxStates states are not too many, one more is; a run that falls comes to no further one.
func TestMaxStates(t *testing.T) {
	for _, n := range []int{10, 11, 12, 3998, 3999, 4000, 4001, 4002, 4003} {
		p := counts(t, n, "")
		if _, got := oracle(p, false, 5000); got != n {
			t.Fatalf("%d states, want %d", got, n)
		}
		if got := full(t, p); got != [3]bool{n > 4000, n > 4000, n > 4000} {
			t.Error(n, got)
		}
		p = counts(t, n, "; unlock 0")
		if got := full(t, p); got != [3]bool{n > 4000, n > 4000, n > 4000} {
			t.Error("falls:", n, got)
		}
		if n <= 4000 {
			want(t, n, outcomes(t, space.TSO, p), "fell [] []")
		}
	}
	fences := func(n int) string { return strings.Repeat("fence; ", n) }
	head := "words 0; locks 0; regs 1"
	for _, x := range []struct {
		what    string
		threads []string
		want    [3]bool
	}{
		{"50 by 80", []string{fences(49), fences(79)}, none},
		{"51 by 80", []string{fences(50), fences(79)}, all},
		{"10 by 10 by 8 by 5", []string{fences(9), fences(9), fences(7), fences(4)}, none},
		{"10 by 10 by 8 by 6", []string{fences(9), fences(9), fences(7), fences(5)}, all},
		{"400 by 10", []string{fences(399), fences(9)}, none},
		{"401 by 10", []string{fences(400), fences(9)}, all},
		{"nothing, and much that is never done", []string{"jump 300; " + fences(299), "jump 300; " + fences(299)}, none},
	} {
		if got := full(t, program(t, head, x.threads...)); got != x.want {
			t.Error(x.what, got)
		}
	}
}

// D1: what waits makes states of its own, so that TSO may say no more where SC does; Robust says no more then.
func TestMaxStatesWhereStoresWait(t *testing.T) {
	with := func(n int) api.Program {
		return program(t, "words 0; locks 0; regs 1", strings.Repeat("store 0 0; ", 19), strings.Repeat("fence; ", n))
	}
	// The first thread comes to 20 states at once, the second one to one more than it has orders.
	if a, b := full(t, with(199)), full(t, with(200)); a != [3]bool{false, true, true} || b != all {
		t.Error(a, b)
	}
	// Behind the first n of its stores from 0 to 3 of them wait: 1, 2, 3, and 4 of each further n.
	if _, states := oracle(with(0), true, 4000); states != 6+4*17 {
		t.Fatal(states)
	}
	if a, b := full(t, with(53)), full(t, with(54)); a != none || b != [3]bool{false, true, true} {
		t.Error(a, b)
	}
}

// D1: each thing that a state is tells it from others.
func TestWhatStatesAre(t *testing.T) {
	for _, x := range []struct {
		what    string
		head    string
		threads []string
		want    [3]bool
	}{
		{"where it stands", "words 0; locks 0; regs 1", []string{"jump 0"}, none},
		{"a register", "words 0; locks 0; regs 2", []string{"const 1 1; add 0 0 1; jump 1"}, all},
		{"the last register of the last thread", "words 0; locks 0; regs 200", []string{"", "", "", "const 0 1; add 199 199 0; jump 1"}, all},
		{"a word", "words 0 0; locks 0; regs 2", []string{"const 1 1; load 0 1; add 0 0 1; store 1 0; fence; const 0 0; jump 1"}, all},
		{"what was printed", "words 0; locks 0; regs 1", []string{"print 0; jump 0"}, all},
		{"what was printed by whom", "words 0; locks 0; regs 1", []string{strings.Repeat("print 0; ", 7), strings.Repeat("print 0; ", 7)}, all},
		{"nothing new", "words 0; locks 2; regs 2", []string{"lock 0; store 0 0; load 1 0; unlock 0; lock 1; fence; cas 0 1 0; unlock 1; zero 0 0"}, none},
	} {
		if got := full(t, program(t, x.head, x.threads...)); got != x.want {
			t.Error(x.what, got)
		}
	}
}

// counted tells how many states are gone through, of both machines.
func counted(p api.Program) [2]int {
	var counts [2]int
	for i, m := range []sc.Memory{sc.NewPlain(p), tso.NewBuffered(p)} {
		space.Walk(sc.Begin(p, m), func(*sc.State) { counts[i]++ }, func(*sc.State) {})
	}
	return counts
}

// D1: states that are unlike in one thing alone are two, and what comes of both of them is told.
func TestUnlikeInOneThing(t *testing.T) {
	flag := "const 0 1; store 0 0"
	// either does one of two orders, as the first word says, and stands behind them then with the same numbers in its registers.
	either := func(a, b string) string {
		return "load 0 0; zero 0 4; " + a + "; jump 5; " + b + "; const 0 0; "
	}
	for _, x := range []struct {
		what, sc string
		threads  []string
	}{
		{"a lock is free", "done [1 0 0 0] []; stuck [1 0 0 0] []", []string{either("lock 0", "fence") + "lock 0", flag}},
		{"who has taken a lock", "done [1 1 0 0] []; fell [] []; stuck [1 1 0 0] []", []string{either("lock 0", "fence") + "load 0 1; zero 0 6; unlock 0", either("fence", "lock 0") + "const 0 1; store 1 0", flag}},
		{"which lock", "fell [] []", []string{either("lock 0", "lock 1") + "unlock 0; unlock 1", flag}},
		{"a word", "done [1 0 0 0] [0 0]; done [1 5 0 0] [0 5]", []string{"const 1 5; " + strings.ReplaceAll(strings.ReplaceAll(either("store 1 1", "fence"), "zero 0 4", "zero 0 5"), "jump 5", "jump 6") + "load 1 1; print 1", flag}},
		{"a register", "done [1 0 0 0] [0 0]; done [1 0 0 0] [0 5]", []string{either("const 1 5", "fence") + "print 1", flag}},
		{"which register", "done [1 0 0 0] [0 1 0 11]; done [1 0 0 0] [0 11 0 1]", []string{"load 0 0; zero 0 5; const 1 1; const 2 11; jump 7; const 1 11; const 2 1; const 0 0; print 1; print 2", flag}},
		{"what was printed", "done [1 0 0 0] [0 0]; done [1 0 0 0] [0 1]", []string{either("print 0", "print 0"), flag}},
		{"what waits: the word", "done [1 0 3 0] []; done [1 3 0 0] []", []string{"const 1 3; load 0 0; zero 0 5; store 1 1; jump 6; store 2 1; const 0 0", flag}},
		{"what waits: the number", "done [1 3 0 0] []; done [1 4 0 0] []", []string{"const 1 3; const 2 4; load 0 0; zero 0 6; store 1 1; jump 7; store 1 2; const 0 0", flag}},
		{"what waits: a word, or a lock", "done [1 0 0 0] []; stuck [1 0 0 0] []", []string{"lock 1; load 0 0; zero 0 5; store 1 1; jump 6; unlock 1; const 0 0", flag, "lock 1"}},
		{"what waits: which lock", "done [1 0 0 0] []; stuck [1 0 0 0] []", []string{"lock 0; lock 1; load 0 0; zero 0 6; unlock 0; jump 7; unlock 1; const 0 0", flag, "lock 1"}},
	} {
		p := program(t, "words 0 0 0 0; locks 2; regs 3", x.threads...)
		want(t, x.what, outcomes(t, space.SC, p), x.sc)
		plain, one := oracle(p, false, 4000)
		waiting, two := oracle(p, true, 4000)
		if got := counted(p); got != [2]int{one, two} {
			t.Error(x.what, got, one, two)
		}
		if a, b := outcomes(t, space.SC, p), outcomes(t, space.TSO, p); len(a) != len(plain) || len(b) != len(waiting) {
			t.Error(x.what, a, plain, b, waiting)
		}
	}
}

// D1: loops that never end have runs that are Out; these are no outcomes, and those that end are told nevertheless.
func TestWithoutRegardToSteps(t *testing.T) {
	head := "words 0; locks 1; regs 2"
	wait := program(t, head, "load 0 0; zero 0 0; print 0", "const 0 7; store 0 0")
	if r, _ := sc.Run(wait, nil); r.Status != api.Out {
		t.Fatal(r)
	}
	want(t, "a wait", outcomes(t, space.SC, wait), "done [7] [0 7]")
	want(t, "a wait", outcomes(t, space.TSO, wait), "done [7] [0 7]")
	loop := program(t, head, "jump 0", "print 0; unlock 0")
	want(t, "falls beside a loop", outcomes(t, space.SC, loop), "fell [] [1 0]")
	stuck := program(t, head, "jump 0", "lock 0; lock 0")
	want(t, "one is not able, another one is", outcomes(t, space.TSO, stuck), "")
}

// D1: Check's fault comes first, also of programs that have too many states.
func TestRefuses(t *testing.T) {
	forever := []api.Instr{{Op: api.OpPrint}, {Op: api.OpJump}}
	for _, p := range []api.Program{
		{},
		{Regs: 1},
		{Code: make([][]api.Instr, api.MaxThreads+1), Regs: 1},
		{Code: [][]api.Instr{nil}, Words: make([]int, api.MaxWords+1), Regs: 1},
		{Code: [][]api.Instr{nil}},
		{Code: [][]api.Instr{nil}, Regs: -1},
		{Code: [][]api.Instr{nil}, Regs: api.MaxRegs + 1},
		{Code: [][]api.Instr{nil}, Locks: -1, Regs: 1},
		{Code: [][]api.Instr{nil}, Locks: api.MaxLocks + 1, Regs: 1},
		{Code: [][]api.Instr{forever, make([]api.Instr, api.MaxCode+1)}, Regs: 1},
		{Code: [][]api.Instr{forever, {{Op: api.OpFence}, {Op: 19}}}, Regs: 1},
		{Code: [][]api.Instr{forever, {{Op: api.OpFence}, {Op: api.OpLoad}}}, Regs: 1},
		{Code: [][]api.Instr{forever, {{Op: api.OpLock}}}, Regs: 1},
		{Code: [][]api.Instr{forever, forever, {{Op: api.OpJump, A: 2}}}, Regs: 1},
	} {
		wrong := asm.Check(p)
		if wrong.Code == api.OK {
			t.Fatal("may be:", p)
		}
		if list, f := space.SC(p); f != wrong || len(list) > 0 {
			t.Error(list, f, wrong)
		}
		if list, f := space.TSO(p); f != wrong || len(list) > 0 {
			t.Error(list, f, wrong)
		}
		if is, f := space.Robust(p); f != wrong || is {
			t.Error(is, f, wrong)
		}
	}
}

// rising tells whether outcomes stand in order, each once, by the document's words.
func rising(list []api.Outcome) bool {
	for i := 1; i < len(list); i++ {
		a, b := list[i-1], list[i]
		switch words := slices.Compare(a.Words, b.Words); {
		case a.Status != b.Status:
			if a.Status > b.Status {
				return false
			}
		case words > 0 || words == 0 && slices.Compare(a.Prints, b.Prints) >= 0:
			return false
		}
	}
	return true
}

// D1 to D3: many programs come to what the second writing says, and are robust just where it says so.
func TestAgainstOracle(t *testing.T) {
	d := dice(3)
	var ends [4]int
	var answers [3]int // not robust, robust, too many states
	for n := range 160 {
		p := anyProgram(&d, 3, 6)
		if n%3 == 0 {
			p = crossed(&d)
		}
		var texts [2]string
		for i, of := range []func(api.Program) ([]api.Outcome, api.Fault){space.SC, space.TSO} {
			list, f := of(p)
			other, states := oracle(p, i == 1, 4000)
			if states > 4000 {
				if f != (api.Fault{Code: api.ErrFull}) || len(list) > 0 {
					t.Fatal(p, f, states)
				}
				texts[i] = "full"
				continue
			}
			if f != (api.Fault{}) || len(list) != len(other) || !rising(list) {
				t.Fatal(p, f, list, other)
			}
			for _, o := range list {
				ends[o.Status]++
				if same, is := other[fmt.Sprint(o)]; !is || same.Status == api.Fell && o.Words != nil {
					t.Fatal(p, o, other)
				}
			}
			texts[i] = told(list)
			if got := counted(p)[i]; got != states {
				t.Fatal(p, got, states)
			}
		}
		is, f := space.Robust(p)
		if texts[0] == "full" || texts[1] == "full" {
			answers[2]++
			if is || f != (api.Fault{Code: api.ErrFull}) {
				t.Fatal(p, is, f)
			}
		} else if f != (api.Fault{}) || is != (texts[0] == texts[1]) {
			t.Fatal(p, is, f, texts)
		} else if is {
			answers[1]++
		} else {
			answers[0]++
		}
	}
	for status := range 3 {
		if ends[status] < 40 || answers[status] < 10 {
			t.Error("few of a kind:", ends, answers)
		}
	}
}

// D2: each run that ends is one of the outcomes, and each outcome is that of some run, of all scripts.
func TestAllScripts(t *testing.T) {
	d := dice(11)
	for range 12 {
		p := anyProgram(&d, 2, 3)
		for _, code := range p.Code {
			for i := range code {
				// Without a way back each run has few steps.
				if code[i].Op == api.OpJump || code[i].Op == api.OpZero {
					code[i] = api.Instr{Op: api.OpStore}
				}
			}
		}
		hold(t, p, space.SC, sc.Run, 2, 6)
		hold(t, p, space.TSO, tso.Run, 4, 8)
	}
}

// hold runs a program by all scripts of so many numbers below picks, and holds how it ends against what is answered.
func hold(t *testing.T, p api.Program, of func(api.Program) ([]api.Outcome, api.Fault), run func(api.Program, []int) (api.Trace, api.Fault), picks, length int) {
	t.Helper()
	list := outcomes(t, of, p)
	missing := map[string]bool{}
	for _, o := range list {
		missing[told([]api.Outcome{o})] = true
	}
	seen := map[string]bool{}
	script := make([]int, length)
	for more := true; more; {
		r, f := run(p, script)
		if f.Code != api.OK {
			t.Fatal(p, f)
		}
		if r.Status == api.Fell {
			r.Words = nil
		}
		text := told([]api.Outcome{{Status: r.Status, Words: r.Words, Prints: r.Prints}})
		if !missing[text] && !seen[text] {
			t.Fatal("no outcome:", p, script, text, told(list))
		}
		delete(missing, text)
		seen[text] = true
		more = false
		for i := range script {
			if script[i]++; script[i] < picks {
				more = true
				break
			}
			script[i] = 0
		}
	}
	if len(missing) > 0 {
		t.Fatal("of no run:", p, missing)
	}
}

// D3: each outcome of SC is one of TSO.
func TestEachOfSCIsOfTSO(t *testing.T) {
	d := dice(5)
	said := 0
	for n := range 240 {
		p := anyProgram(&d, 4, 5)
		if n%2 == 0 {
			p = crossed(&d)
		}
		plain, f := space.SC(p)
		waiting, g := space.TSO(p)
		if f.Code != api.OK || g.Code != api.OK {
			continue
		}
		said++
		for _, o := range plain {
			if !slices.ContainsFunc(waiting, func(w api.Outcome) bool { return reflect.DeepEqual(o, w) }) {
				t.Fatal(p, o, told(waiting))
			}
		}
	}
	if said < 120 {
		t.Error("few programs:", said)
	}
}

// P3: nothing that is given is changed or kept, nothing behind a list's length is touched, and no two lists share anything.
func TestNothingShared(t *testing.T) {
	behind := []int{1, 2, 3, 4, 5, 6}
	given := func() api.Program {
		p := program(t, "words 1 2; locks 1; regs 1", "const 0 1; store 1 0; print 0; load 0 0; print 0", "load 0 1; print 0; const 0 1; storeat 0 0; print 0; lock 0")
		p.Words = slices.Clone(behind)[:2]
		return p
	}
	for _, of := range []func(api.Program) ([]api.Outcome, api.Fault){space.SC, space.TSO} {
		p, before := given(), given()
		list, again := outcomes(t, of, p), outcomes(t, of, p)
		if len(list) < 5 || !reflect.DeepEqual(list, again) {
			t.Fatal(list, again)
		}
		var lists, copies [][]int
		for i := range list {
			lists = append(lists, list[i].Words, list[i].Prints)
			copies = append(copies, again[i].Words, again[i].Prints)
		}
		for i := range lists {
			for j := i; j < len(lists); j++ {
				if !slices.Equal(lists[j], copies[j]) {
					t.Fatal("shared:", i, j, lists[j], copies[j])
				}
			}
			whole := lists[i][:cap(lists[i])]
			for j := range whole {
				whole[j] = 99
			}
		}
		if !reflect.DeepEqual(p, before) || !slices.Equal(p.Words[:6], behind) {
			t.Error("changed:", p)
		}
	}
	p, before := given(), given()
	if a, b := robust(t, p), robust(t, p); a != b || !reflect.DeepEqual(p, before) || !slices.Equal(p.Words[:6], behind) {
		t.Error("changed:", a, b, p)
	}
}
