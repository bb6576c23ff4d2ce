package pso_test

import (
	"fmt"
	"math"
	"reflect"
	"slices"
	"strings"
	"testing"

	"sluice/api"
	"sluice/asm"
	"sluice/pso"
)

// program is that of a text; orders of a thread are parted by "; ".
func program(t *testing.T, head string, threads ...string) api.Program {
	t.Helper()
	text := strings.ReplaceAll(head, "; ", "\n") + "\n"
	for _, orders := range threads {
		text += "thread\n"
		if orders = strings.Trim(orders, "; "); orders != "" {
			text += strings.ReplaceAll(orders, "; ", "\n") + "\n"
		}
	}
	p, f := asm.Parse(text)
	if f.Code != api.OK {
		t.Fatalf("%q: %v", text, f)
	}
	return p
}

func run(t *testing.T, p api.Program, script ...int) api.Trace {
	t.Helper()
	r, f := pso.Run(p, script)
	if f != (api.Fault{}) {
		t.Fatalf("%v: %v", p, f)
	}
	return r
}

// alike holds traces against each other; an empty list may be nil or not.
func alike(a, b api.Trace) bool {
	return a.Status == b.Status && a.Steps == b.Steps && slices.Equal(a.Prints, b.Prints) && slices.Equal(a.Words, b.Words)
}

func want(t *testing.T, what any, got, want api.Trace) {
	t.Helper()
	if !alike(got, want) {
		t.Errorf("%v: %v, want %v", what, got, want)
	}
}

// printed tells what a single thread prints.
func printed(numbers ...int) []int {
	var list []int
	for _, n := range numbers {
		list = append(list, 0, n)
	}
	return list
}

// afterwards tells what the words hold, when thread 0 has done so many orders, and the pick of this number is taken: the other thread looks at them.
func afterwards(t *testing.T, orders string, done, pick int) string {
	t.Helper()
	p := program(t, "words 0 0 0 0; locks 2; regs 3", orders, "load 0 0; print 0; load 0 1; print 0; load 0 2; print 0; load 0 3; print 0")
	// The other thread's order is the last that can be picked, each time.
	script := append(make([]int, done), pick)
	r := run(t, p, append(script, -1, -1, -1, -1, -1, -1, -1, -1)...)
	var text string
	for i := 0; i < len(r.Prints); i += 2 {
		if r.Prints[i] == 1 {
			text += fmt.Sprint(r.Prints[i+1])
		}
	}
	return text
}

// R1, R2: what can be picked behind a thread's orders, in order: what the words hold then; last the other thread, where all stays.
func TestWhatMayBeDone(t *testing.T) {
	for _, x := range []struct{ what, orders, want string }{
		{"nothing waits", "const 0 1; const 1 2; const 2 3", "0000"},
		{"one", "const 0 1; store 2 0; fence", "0010 0000"},
		{"of two words", "const 0 1; store 2 0; store 1 0; fence", "0010 0100 0000"},
		{"of three words", "const 0 1; const 1 2; const 2 3; store 3 2; store 0 0; store 1 1; fence", "0003 1000 0200 0000"},
		{"of one word", "const 0 1; const 1 2; store 2 0; store 2 1; fence", "0010 0000"},
		{"three of one word", "const 0 1; const 1 2; store 2 0; store 2 1; store 2 0; fence", "0010 0000"},
		{"of one word, and behind these of another", "const 0 1; const 1 2; store 2 0; store 2 1; store 0 1; fence", "0010 2000 0000"},
		{"of one word, and ahead of these of another", "const 0 1; const 1 2; store 0 1; store 2 0; store 2 1; fence", "2000 0010 0000"},
		{"of one word, and between these of another", "const 0 1; const 1 2; store 2 0; store 0 1; store 2 1; fence", "0010 2000 0000"},
		{"the same number into one word", "const 0 1; store 2 0; store 2 0; fence", "0010 0000"},
		{"the word 0 twice", "const 0 1; const 1 2; store 0 0; store 0 1; fence", "1000 0000"},
		{"by a register", "const 0 1; const 1 2; storeat 0 1; storeat 1 0; store 1 0; fence", "0200 0010 0000"},
		{"ahead of a lock", "lock 0; const 0 1; store 0 0; store 1 0; unlock 0; fence", "1000 0100 0000"},
		{"behind a lock", "lock 1; const 0 1; store 0 0; unlock 1; store 1 0; fence", "1000 0000"},
		{"behind the lock of the word's number", "lock 1; const 0 1; store 0 0; unlock 1; store 2 0; fence", "1000 0000"},
	} {
		done := strings.Count(x.orders, ";")
		if x.what == "nothing waits" {
			done++
		}
		list := strings.Fields(x.want)
		for pick := -2 * len(list); pick < 3*len(list); pick++ {
			place := (pick + 2*len(list)) % len(list)
			if got := afterwards(t, x.orders, done, pick); got != list[place] {
				t.Errorf("%s: pick %d: %s, want %s", x.what, pick, got, list[place])
			}
		}
	}
}

// R2: a thread's next order comes ahead of what waits there, and all of a thread's ahead of what is the next one's.
func TestPicks(t *testing.T) {
	one := "const 0 1; store 0 0; store 1 0; print 0"
	p := program(t, "words 0 0 0 0; locks 0; regs 1", one, strings.NewReplacer("0 1", "0 2", "store 0", "store 2", "store 1", "store 3").Replace(one), "load 0 0; print 0; load 0 1; print 0; load 0 2; print 0; load 0 3; print 0")
	// Both threads stand ahead of their print, and two stores of each wait: 0 is thread 0's order, 1 and 2 its stores, 3 thread 1's, 4 and 5 its, 6 is thread 2.
	both := []int{0, 0, 0, 3, 3, 3}
	look := slices.Repeat([]int{-1}, 8)
	for pick, prints := range [][]int{
		{0, 1, 2, 0, 2, 0, 2, 0, 2, 0},
		{2, 1, 2, 0, 2, 0, 2, 0, 0, 1},
		{2, 0, 2, 1, 2, 0, 2, 0, 0, 1},
		{1, 2, 2, 0, 2, 0, 2, 0, 2, 0},
		{2, 0, 2, 0, 2, 2, 2, 0, 0, 1},
		{2, 0, 2, 0, 2, 0, 2, 2, 0, 1},
	} {
		r := run(t, p, slices.Concat(both, []int{pick}, look)...)
		if r.Status != api.Done || r.Steps != 20 || !slices.Equal(r.Prints[:10], prints) || !slices.Equal(r.Words, []int{1, 1, 2, 2}) {
			t.Error(pick, r, prints)
		}
		if again := run(t, p, slices.Concat(both, []int{pick - 7}, look)...); !alike(r, again) {
			t.Error(pick-7, again, r)
		}
		if again := run(t, p, slices.Concat(both, []int{pick + 14}, look)...); !alike(r, again) {
			t.Error(pick+14, again, r)
		}
	}
	r := run(t, p, slices.Concat(both, []int{6}, look)...)
	want(t, "the last thread", r, api.Trace{Prints: []int{2, 0, 2, 0, 2, 0, 2, 0, 0, 1, 1, 2}, Words: []int{1, 1, 2, 2}, Steps: 20})
}

// R1: the example: who sees the second store need not see the first one.
func TestExample(t *testing.T) {
	p := program(t, "words 0 0; locks 0; regs 2", "const 0 1; store 0 0; store 1 0", "load 0 1; load 1 0; print 0; print 1")
	want(t, "the second one first", run(t, p, 0, 0, 0, 1, 1, 1, 1, 1), api.Trace{Prints: []int{1, 1, 1, 0}, Words: []int{1, 1}, Steps: 9})
	want(t, "the first one first", run(t, p, 0, 0, 0, 0, 1, 1, 1, 1), api.Trace{Prints: []int{1, 0, 1, 1}, Words: []int{1, 1}, Steps: 9})
	want(t, "both", run(t, p), api.Trace{Prints: []int{1, 1, 1, 1}, Words: []int{1, 1}, Steps: 9})
	came := outcomes(t, p)
	if got := told(came); got != "done [1 1] [1 0 1 0]; done [1 1] [1 0 1 1]; done [1 1] [1 1 1 0]; done [1 1] [1 1 1 1]" {
		t.Error(got)
	}
}

// R1: stores into one word are done in their order, also where another one between them is done first.
func TestOneWordInOrder(t *testing.T) {
	p := program(t, "words 0 0; locks 0; regs 2", "const 0 1; store 0 0; const 1 2; store 1 1; store 0 1")
	want(t, "the middle one first", run(t, p, 0, 0, 0, 0, 1), api.Trace{Words: []int{2, 2}, Steps: 8})
	for _, o := range outcomes(t, p) {
		if !slices.Equal(o.Words, []int{2, 2}) {
			t.Error(o)
		}
	}
}

// R1: a load gives what the last store that waits for the word says, whatever else was done ahead of it.
func TestOwnStores(t *testing.T) {
	p := program(t, "words 7 8 9; locks 0; regs 3", "const 0 1; const 1 2; store 0 0; store 1 1; store 0 1; load 2 0; print 2; load 2 1; print 2; load 2 2; print 2; const 2 0; loadat 2 2; print 2", "load 0 0; print 0; load 0 1; print 0")
	end := []int{2, 2, 9}
	want(t, "all wait", run(t, p), api.Trace{Prints: []int{0, 2, 0, 2, 0, 9, 0, 2, 1, 2, 1, 2}, Words: end, Steps: 21})
	// The store into the word 1 is done first: thread 0 goes on at place 0, the stores into 0 and 1 wait at the places 1 and 2, thread 1 is at the last one.
	want(t, "the second one is done", run(t, p, 0, 0, 0, 0, 0, 2, -1, -1, -1, -1), api.Trace{Prints: []int{1, 7, 1, 2, 0, 2, 0, 2, 0, 9, 0, 2}, Words: end, Steps: 21})
	want(t, "the first one is done", run(t, p, 0, 0, 0, 0, 0, 1, -1, -1, -1, -1), api.Trace{Prints: []int{1, 1, 1, 8, 0, 2, 0, 2, 0, 9, 0, 2}, Words: end, Steps: 21})
}

// R1: that a lock becomes free is done when it is the first one there, not ahead of that; what stands behind it waits for it.
func TestLocks(t *testing.T) {
	p := program(t, "words 0 0; locks 1; regs 1", "lock 0; const 0 1; store 0 0; unlock 0; store 1 0", "load 0 1; lock 0; print 0; load 0 0; print 0")
	// When thread 0 has ended its store waits ahead of the lock, alone: then the lock alone, then the other store and thread 1.
	want(t, "one after the other", run(t, p, 0, 0, 0, 0, 0, 0, 0, 0), api.Trace{Prints: []int{1, 1, 1, 1}, Words: []int{1, 1}, Steps: 13})
	want(t, "thread 1 is able when it is free", run(t, p, 0, 0, 0, 0, 0, 1, 0, 0, 1, 1, 1), api.Trace{Prints: []int{1, 0, 1, 1}, Words: []int{1, 1}, Steps: 13})
	for _, o := range outcomes(t, p) {
		if o.Prints[3] != 1 && (o.Status == api.Done || o.Prints[1] == 1) {
			t.Error("behind the lock the store under it is seen:", o)
		}
	}
	two := program(t, "words; locks 2; regs 1", "lock 0; lock 1; unlock 0; unlock 1", "lock 1; print 0; lock 0; print 0")
	want(t, "no lock passes another", run(t, two, 0, 0, 0, 0, 1, 1, 1), api.Trace{Prints: []int{1, 0, 1, 0}, Steps: 10})
	// Behind the orders of thread 0 the first lock alone can be picked: no number is taken from the script there.
	three := program(t, "words 0; locks 2; regs 1", "lock 0; lock 1; unlock 0; unlock 1", "lock 1; load 0 0; print 0", "lock 0; const 0 1; store 0 0; fence; print 0")
	want(t, "the first lock alone", run(t, three, 0, 0, 0, 1, 1, 1, 1, 1, 1), api.Trace{Prints: []int{2, 1, 1, 1}, Words: []int{1}, Steps: 15})
}

// R1: a run falls at an unlock of what waits to become free already, or is not taken; what waits is not among the words.
func TestFalls(t *testing.T) {
	head := "words 4 5; locks 2; regs 2"
	want(t, "free", run(t, program(t, head, "print 0; unlock 0; print 0")), api.Trace{Status: api.Fell, Prints: printed(0), Words: []int{4, 5}, Steps: 2})
	p := program(t, head, "lock 0; store 0 0; unlock 0; unlock 0")
	want(t, "waits already", run(t, p), api.Trace{Status: api.Fell, Words: []int{4, 5}, Steps: 4})
	want(t, "waits already, the first one", run(t, p, 0, 1), api.Trace{Status: api.Fell, Words: []int{0, 5}, Steps: 5})
	p = program(t, head, "lock 0; unlock 0; store 0 0; store 1 0; unlock 0")
	want(t, "free again", run(t, p), api.Trace{Status: api.Fell, Words: []int{4, 5}, Steps: 6})
	for _, order := range []string{"loadat 0 1", "storeat 1 0"} {
		p = program(t, head, "store 0 0; store 1 0; const 1 2; "+order)
		want(t, order, run(t, p), api.Trace{Status: api.Fell, Words: []int{4, 5}, Steps: 4})
		want(t, order+", the second is done", run(t, p, 0, 2), api.Trace{Status: api.Fell, Words: []int{4, 0}, Steps: 5})
	}
}

// R1: fewer than MaxBuffer wait in all, of whichever words; a fence, a cas and a lock wait until nothing does.
func TestAble(t *testing.T) {
	for _, x := range []struct {
		order string
		words []int // when the run falls behind the order
	}{
		{"store 3 1", []int{1, 0, 0, 0}}, {"storeat 0 1", []int{1, 0, 0, 0}}, {"unlock 0", []int{1, 0, 0, 0}},
		{"fence", []int{1, 1, 1, 0}}, {"cas 3 1 1", []int{1, 1, 1, 0}}, {"lock 1", []int{1, 1, 1, 0}},
		{"load 1 0", nil}, {"loadat 1 0", nil}, {"const 1 1", nil}, {"move 1 0", nil}, {"same 1 0 0", nil}, {"zero 0 0", nil}, {"jump 7", nil},
	} {
		p := program(t, "words 0 0 0 0; locks 2; regs 3", "lock 0; const 0 1; const 2 -1; store 0 0; store 1 0; store 2 0; "+x.order+"; loadat 2 2")
		if x.words == nil {
			x.words = make([]int, 4)
		}
		done := x.words[0] + x.words[1] + x.words[2]
		want(t, x.order, run(t, p), api.Trace{Status: api.Fell, Words: x.words, Steps: 8 + done})
		// By -1 the last one that waits is done first, the others only if they have to be.
		words := []int{0, 0, 1, 0}
		if done == 3 {
			words = x.words
		}
		want(t, x.order+", the last one first", run(t, p, 0, 0, -1), api.Trace{Status: api.Fell, Words: words, Steps: 8 + max(done, 1)})
	}
}

// R1: as in chapter 3 a run is Done when all have ended and nothing waits, Stuck when nothing is to be picked, Out ahead of more than MaxSteps.
func TestEnds(t *testing.T) {
	want(t, "nothing", run(t, program(t, "words 3 -4; locks 4; regs 200", "", "", "", ""), 1, 2, 3), api.Trace{Words: []int{3, -4}})
	p := program(t, "words 0 0; locks 1; regs 1", "const 0 1; store 0 0; store 1 0; lock 0", "lock 0")
	want(t, "stuck when all is done", run(t, p, 1, 0, 0, 2, 1), api.Trace{Status: api.Stuck, Words: []int{1, 1}, Steps: 6})
	p = program(t, "words 0 0; locks 0; regs 1", "const 0 7; store 0 0; store 1 0; jump 3")
	want(t, "waits forever", run(t, p), api.Trace{Status: api.Out, Words: []int{0, 0}, Steps: 5000})
	want(t, "the second one does not", run(t, p, 0, 2), api.Trace{Status: api.Out, Words: []int{0, 7}, Steps: 5000})
	// 4996 steps come ahead of the last orders: 3 at first, 1248 rounds of 4, and the zero that leaves.
	rounds := "const 0 1248; const 1 1; fence; zero 0 7; sub 0 0 1; fence; jump 3; "
	for _, x := range []struct {
		last string
		end  api.Trace
	}{
		{"store 0 0; store 1 0", api.Trace{Words: []int{0, 0}, Steps: 5000}},
		{"fence; store 0 0; store 1 0", api.Trace{Status: api.Out, Words: []int{0, 5}, Steps: 5000}},
	} {
		want(t, x.last, run(t, program(t, "words 5 5; locks 0; regs 2", rounds+x.last)), x.end)
	}
	p = program(t, "words 5 5; locks 0; regs 2", rounds+"fence; store 0 0; store 1 0")
	want(t, "the last one first, then no more", run(t, p, 0, 1), api.Trace{Status: api.Out, Words: []int{5, 0}, Steps: 5000})
	want(t, "the first one, then no more", run(t, p, 0, 2), api.Trace{Status: api.Out, Words: []int{0, 5}, Steps: 5000})
}

// wrongs are programs that may not be.
func wrongs() []api.Program {
	fence := api.Instr{Op: api.OpFence}
	return []api.Program{
		{},
		{Regs: 1},
		{Code: make([][]api.Instr, 5), Regs: 1},
		{Code: [][]api.Instr{{}}, Words: make([]int, 65), Regs: 1},
		{Code: [][]api.Instr{{}}, Regs: 0},
		{Code: [][]api.Instr{{}}, Regs: math.MaxInt},
		{Code: [][]api.Instr{{}}, Regs: 1, Locks: -1},
		{Code: [][]api.Instr{{}}, Regs: 1, Locks: 5},
		{Code: [][]api.Instr{{{Op: api.OpPrint}, {Op: api.OpJump}}, slices.Repeat([]api.Instr{fence}, 401)}, Regs: 1},
		{Code: [][]api.Instr{{fence}, {fence, {Op: 19}}}, Regs: 1},
		{Code: [][]api.Instr{{fence}, {fence, fence, {Op: 0}}}, Regs: 1},
		{Code: [][]api.Instr{{{Op: api.OpStore}}}, Regs: 1},
		{Code: [][]api.Instr{{{Op: api.OpLoad, B: -1}}}, Words: []int{1}, Regs: 1},
		{Code: [][]api.Instr{{{Op: api.OpUnlock}}}, Regs: 1},
		{Code: [][]api.Instr{{{Op: api.OpJump, A: 2}}}, Regs: 1},
	}
}

// R1, R3: Check's fault, with nothing beside it, also of a program that has too many states.
func TestRefuses(t *testing.T) {
	for _, p := range wrongs() {
		wrong := asm.Check(p)
		if wrong.Code == api.OK {
			t.Fatal("may be:", p)
		}
		if r, f := pso.Run(p, []int{1, 2, 3}); f != wrong || len(r.Prints)+len(r.Words)+r.Status+r.Steps != 0 {
			t.Errorf("%v: %v, %v", p, r, f)
		}
		if list, f := pso.Outcomes(p); f != wrong || len(list) != 0 {
			t.Errorf("%v: %v, %v", p, list, f)
		}
	}
}

// P3: what is handed in stays as it is, what comes out is new, and each run of the same is the same.
func TestNothingShared(t *testing.T) {
	behind := []int{1, 2, 3, 4, 5, 6}
	given := func() (api.Program, []int) {
		p := program(t, "words 1 2; locks 1; regs 1", "const 0 1; store 1 0; store 0 0; print 0; lock 0", "load 0 1; print 0; load 0 0; print 0")
		p.Words = slices.Clone(behind)[:2]
		return p, slices.Clone(behind)[:4]
	}
	p, script := given()
	before, numbers := given()
	first, again := run(t, p, script...), run(t, p, script...)
	list, others := outcomes(t, p), outcomes(t, p)
	if !reflect.DeepEqual(first, again) || !reflect.DeepEqual(list, others) || len(list) < 4 {
		t.Fatal(first, again, list, others)
	}
	lists, copies := [][]int{first.Words, first.Prints}, [][]int{again.Words, again.Prints}
	for i := range list {
		lists = append(lists, list[i].Words, list[i].Prints)
		copies = append(copies, others[i].Words, others[i].Prints)
	}
	for i := range lists {
		if !slices.Equal(lists[i], copies[i]) {
			t.Fatal("shared:", i, lists[i], copies[i])
		}
		whole := lists[i][:cap(lists[i])]
		for j := range whole {
			whole[j] = 99
		}
	}
	if !reflect.DeepEqual(p, before) || !slices.Equal(script, numbers) || !slices.Equal(p.Words[:6], behind) || !slices.Equal(script[:6], behind) {
		t.Error("changed:", p, script)
	}
}
