package sc_test

import (
	"math"
	"reflect"
	"slices"
	"strconv"
	"strings"
	"testing"

	"sluice/api"
	"sluice/asm"
	"sluice/sc"
)

// program is that of a text; orders of a thread may be parted by "; ".
func program(t *testing.T, head string, threads ...string) api.Program {
	t.Helper()
	text := strings.ReplaceAll(head, "; ", "\n") + "\n"
	for _, orders := range threads {
		text += "thread\n"
		if orders != "" {
			text += strings.ReplaceAll(orders, "; ", "\n") + "\n"
		}
	}
	p, f := asm.Parse(text)
	if f.Code != api.OK {
		t.Fatalf("%q: %v", text, f)
	}
	return p
}

func run(t *testing.T, p api.Program, script ...int) api.Trace {
	t.Helper()
	r, f := sc.Run(p, script)
	if f != (api.Fault{}) {
		t.Fatalf("%v: %v", p, f)
	}
	return r
}

// want holds traces against each other; an empty list may be nil or not.
func want(t *testing.T, what any, got, want api.Trace) {
	t.Helper()
	if got.Status != want.Status || got.Steps != want.Steps || !slices.Equal(got.Prints, want.Prints) || !slices.Equal(got.Words, want.Words) {
		t.Errorf("%v: %v, want %v", what, got, want)
	}
}

// printed tells what a single thread prints.
func printed(numbers ...int) []int {
	var list []int
	for _, n := range numbers {
		list = append(list, 0, n)
	}
	return list
}

func number(n int) string {
	return strconv.Itoa(n)
}

// B1: registers hold 0 at first, words what Words says, threads stand ahead of order 0; a run of no order is Done.
func TestBegin(t *testing.T) {
	want(t, "nothing", run(t, program(t, "words; locks 0; regs 1", "")), api.Trace{})
	want(t, "four of nothing", run(t, program(t, "words 3 -4; locks 4; regs 200", "", "", "", ""), 1, 2, 3), api.Trace{Words: []int{3, -4}})
	p := program(t, "words 5 -6; locks 0; regs 200", "print 0; print 199; load 0 0; print 0; load 0 1; print 0")
	want(t, "first", run(t, p), api.Trace{Prints: printed(0, 0, 5, -6), Words: []int{5, -6}, Steps: 6})
	p = program(t, "words; locks 0; regs 1", "const 0 1; print 0", "print 0")
	want(t, "each has its own registers", run(t, p, 0, 0, 0), api.Trace{Prints: []int{0, 1, 1, 0}, Steps: 3})
}

// B1: orders that registers alone have to do with, by numbers that go round.
func TestReckon(t *testing.T) {
	for _, x := range []struct {
		op      string
		b, c, a int
	}{
		{"add", 2, 3, 5}, {"add", math.MaxInt, 1, math.MinInt}, {"add", math.MinInt, -1, math.MaxInt}, {"add", -7, 7, 0},
		{"sub", 2, 3, -1}, {"sub", math.MinInt, 1, math.MaxInt}, {"sub", 0, math.MinInt, math.MinInt}, {"sub", 9, 4, 5},
		{"mul", -2, 3, -6}, {"mul", math.MaxInt, 2, -2}, {"mul", math.MinInt, -1, math.MinInt}, {"mul", 1 << 32, 1 << 32, 0},
		{"less", 1, 2, 1}, {"less", 2, 2, 0}, {"less", 3, 2, 0}, {"less", math.MinInt, math.MaxInt, 1}, {"less", math.MaxInt, math.MinInt, 0}, {"less", -1, 0, 1},
		{"same", 4, 4, 1}, {"same", 4, 5, 0}, {"same", 5, 4, 0}, {"same", math.MinInt, math.MinInt, 1}, {"same", -1, 1, 0},
	} {
		set := "const 0 77; const 1 " + number(x.b) + "; const 2 " + number(x.c) + "; "
		p := program(t, "words; locks 0; regs 3", set+x.op+" 0 1 2; print 0; print 1; print 2")
		want(t, x, run(t, p), api.Trace{Prints: printed(x.a, x.b, x.c), Steps: 7})
		p = program(t, "words; locks 0; regs 3", set+x.op+" 1 1 2; print 1")
		want(t, []any{x, "into B"}, run(t, p), api.Trace{Prints: printed(x.a), Steps: 5})
		p = program(t, "words; locks 0; regs 3", set+x.op+" 2 1 2; print 2")
		want(t, []any{x, "into C"}, run(t, p), api.Trace{Prints: printed(x.a), Steps: 5})
	}
	p := program(t, "words; locks 0; regs 2", "const 1 "+number(math.MinInt)+"; move 0 1; const 1 3; print 0; print 1; move 1 1; print 1")
	want(t, "move", run(t, p), api.Trace{Prints: printed(math.MinInt, 3, 3), Steps: 7})
}

// B1: words are loaded and stored, by their number and by what a register holds; a fence does nothing.
func TestWords(t *testing.T) {
	p := program(t, "words 10 20 30; locks 0; regs 3", "const 0 8; store 2 0; load 1 2; print 1; load 1 0; print 1; fence; store 1 1")
	want(t, "load, store", run(t, p), api.Trace{Prints: printed(8, 10), Words: []int{10, 10, 8}, Steps: 8})
	p = program(t, "words 10 20 30; locks 0; regs 3", "const 0 2; const 1 9; loadat 2 0; print 2; storeat 0 1; loadat 0 0; print 0; print 1")
	want(t, "loadat, storeat", run(t, p), api.Trace{Prints: printed(30, 9, 9), Words: []int{10, 20, 9}, Steps: 8})
	p = program(t, "words 10 20; locks 0; regs 1", "const 0 1; storeat 0 0")
	want(t, "its own number", run(t, p), api.Trace{Words: []int{10, 1}, Steps: 2})
}

// B1: cas of a word that holds what is asked for, and of one that does not.
func TestCas(t *testing.T) {
	set := func(b, c int) string { return "const 1 " + number(b) + "; const 2 " + number(c) + "; " }
	head := "words 5 6; locks 0; regs 3"
	for _, x := range []struct {
		orders  string
		b, c, w int
	}{
		{set(6, 9) + "cas 1 1 2", 1, 9, 9},
		{set(5, 9) + "cas 1 1 2", 0, 9, 6},
		{set(6, 6) + "cas 1 1 2", 1, 6, 6},
		{set(6, 0) + "cas 1 1 1", 1, 0, 6},
		{set(7, 0) + "cas 1 1 1", 0, 0, 6},
		{set(1, 9) + "cas 1 1 2", 0, 9, 6},
	} {
		want(t, x, run(t, program(t, head, x.orders+"; print 1; print 2")), api.Trace{Prints: printed(x.b, x.c), Words: []int{5, x.w}, Steps: 5})
	}
}

// B1: jumps, ahead and back, and to behind the last order.
func TestJumps(t *testing.T) {
	p := program(t, "words; locks 0; regs 1", "jump 2; print 0; const 0 4; jump 5; print 0; print 0")
	want(t, "jump", run(t, p), api.Trace{Prints: printed(4), Steps: 4})
	p = program(t, "words; locks 0; regs 1", "jump 2; print 0")
	want(t, "to behind the last", run(t, p), api.Trace{Steps: 1})
	p = program(t, "words; locks 0; regs 2", "zero 0 2; print 0; const 0 -1; zero 0 6; print 0; zero 1 7; print 1")
	want(t, "zero", run(t, p), api.Trace{Prints: printed(-1), Steps: 5})
	count := "const 0 3; const 1 1; zero 0 6; print 0; sub 0 0 1; jump 2; print 1"
	want(t, "loop", run(t, program(t, "words; locks 0; regs 2", count)), api.Trace{Prints: printed(3, 2, 1, 1), Steps: 16})
}

// B1: a lock is free at first; who has taken it alone can free it; others stand ahead of it.
func TestLocks(t *testing.T) {
	p := program(t, "words; locks 2; regs 1", "lock 1; lock 0; unlock 1; lock 1; unlock 0; unlock 1")
	want(t, "taken and freed", run(t, p), api.Trace{Steps: 6})
	section := "lock 0; load 0 0; print 0; const 0 1; store 0 0; unlock 0"
	p = program(t, "words 0; locks 1; regs 1", section, section)
	want(t, "the second one is not able", run(t, p, 0, 1, 1, 1), api.Trace{Prints: []int{0, 0, 1, 1}, Words: []int{1}, Steps: 12})
	want(t, "the first one is not able", run(t, p, 1, 0, 0), api.Trace{Prints: []int{1, 0, 0, 1}, Words: []int{1}, Steps: 12})
	p = program(t, "words; locks 2; regs 1", "lock 0; unlock 0", "lock 1; unlock 1")
	want(t, "of different locks", run(t, p, 0, 1, 0), api.Trace{Steps: 4})
	p = program(t, "words; locks 1; regs 1", "lock 0", "print 0")
	want(t, "kept", run(t, p), api.Trace{Prints: []int{1, 0}, Steps: 2})
}

// B1, B3: a run falls at an unlock of what the thread has not taken, and counts that step.
func TestFallsAtUnlock(t *testing.T) {
	p := program(t, "words 4; locks 1; regs 1", "print 0; unlock 0; print 0")
	want(t, "free", run(t, p), api.Trace{Status: api.Fell, Prints: printed(0), Words: []int{4}, Steps: 2})
	p = program(t, "words; locks 2; regs 1", "lock 0; unlock 1")
	want(t, "another lock", run(t, p), api.Trace{Status: api.Fell, Steps: 2})
	p = program(t, "words; locks 1; regs 1", "lock 0; unlock 0; unlock 0")
	want(t, "twice", run(t, p), api.Trace{Status: api.Fell, Steps: 3})
	p = program(t, "words; locks 1; regs 1", "lock 0; print 0", "unlock 0")
	want(t, "another thread's", run(t, p, 0, 1), api.Trace{Status: api.Fell, Steps: 2})
	p = program(t, "words; locks 4; regs 1", "unlock 3", "", "", "lock 3; print 0; print 0")
	want(t, "the last thread's", run(t, p, 1, 1, 0), api.Trace{Status: api.Fell, Prints: []int{3, 0}, Steps: 3})
}

// B1, B3: a run falls where a register holds the number of no word; the words are told as they are then.
func TestFallsAtNoWord(t *testing.T) {
	for _, n := range []int{-1, 2, 3, 64, math.MaxInt, math.MinInt} {
		for _, order := range []string{"loadat 1 0", "storeat 0 1"} {
			p := program(t, "words 3 4; locks 0; regs 2", "const 0 9; store 1 0; const 0 "+number(n)+"; print 1; "+order+"; print 1")
			want(t, []any{n, order}, run(t, p), api.Trace{Status: api.Fell, Prints: printed(0), Words: []int{3, 9}, Steps: 5})
		}
	}
	for _, order := range []string{"loadat 0 0", "storeat 0 0"} {
		want(t, "no words", run(t, program(t, "words; locks 0; regs 1", order)), api.Trace{Status: api.Fell, Steps: 1})
	}
}

// B3: Stuck where none is able, but some has not ended.
func TestStuck(t *testing.T) {
	p := program(t, "words 7; locks 1; regs 1", "lock 0; lock 0; print 0")
	want(t, "own lock", run(t, p), api.Trace{Status: api.Stuck, Words: []int{7}, Steps: 1})
	p = program(t, "words; locks 1; regs 1", "lock 0", "print 0; lock 0; print 0")
	want(t, "a lock that is kept", run(t, p), api.Trace{Status: api.Stuck, Prints: []int{1, 0}, Steps: 2})
	p = program(t, "words; locks 2; regs 1", "lock 0; lock 1; unlock 1; unlock 0", "lock 1; lock 0; unlock 0; unlock 1")
	want(t, "in unlike order", run(t, p, 0, 1), api.Trace{Status: api.Stuck, Steps: 2})
	want(t, "one ahead of the other", run(t, p, 0, 0), api.Trace{Steps: 8})
}

// B1: MaxSteps steps may be done; ahead of one more the run is Out.
func TestOut(t *testing.T) {
	forever := program(t, "words 1; locks 0; regs 1", "jump 0")
	want(t, "forever", run(t, forever), api.Trace{Status: api.Out, Words: []int{1}, Steps: 5000})
	long := program(t, "words 2; locks 0; regs 1", "print 0; jump 0", "store 0 0; jump 0")
	r := run(t, long, 0, 1)
	if r.Status != api.Out || r.Steps != 5000 || !slices.Equal(r.Words, []int{0}) || len(r.Prints) != 2*2500 {
		t.Error("two forever:", r.Status, r.Steps, r.Words, len(r.Prints))
	}
}

// B1, B3: behind the last step that may be done a run that has no other one is Done, Fell or Stuck, as it would be else.
func TestLastStep(t *testing.T) {
	// 4996 steps come ahead of the last orders: 3 at first, 1248 rounds of 4, and the zero that leaves.
	orders := func(last string) string {
		return "const 0 1248; const 1 1; fence; zero 0 7; sub 0 0 1; fence; jump 3; " + last
	}
	for _, x := range []struct {
		name, last, then string
		end              api.Trace
	}{
		{"done", "fence", "", api.Trace{Status: api.Done, Steps: 4997}},
		{"done at the last", "fence; fence; fence; fence", "", api.Trace{Status: api.Done, Steps: 5000}},
		{"out", "fence; fence; fence; fence; fence", "", api.Trace{Status: api.Out, Steps: 5000}},
		{"fell at the last", "fence; fence; fence; unlock 0", "", api.Trace{Status: api.Fell, Steps: 5000}},
		{"out ahead of a fall", "fence; fence; fence; fence; unlock 0", "", api.Trace{Status: api.Out, Steps: 5000}},
		{"stuck behind the last", "fence; fence; fence; lock 0; lock 0", "", api.Trace{Status: api.Stuck, Steps: 5000}},
		{"out ahead of a lock", "fence; fence; fence; fence; lock 0; lock 0", "", api.Trace{Status: api.Out, Steps: 5000}},
		{"out where another one is able", "fence; fence; fence; lock 0; lock 0", "fence", api.Trace{Status: api.Out, Steps: 5000}},
	} {
		threads := []string{orders(x.last)}
		if x.then != "" {
			threads = append(threads, x.then)
		}
		want(t, x.name, run(t, program(t, "words; locks 1; regs 2", threads...)), x.end)
	}
}

// B2: a number is taken only where at least two can be picked; modulo is from 0 on; without numbers the first is picked.
func TestScript(t *testing.T) {
	three := program(t, "words; locks 0; regs 1", "print 0; print 0", "print 0; print 0", "print 0; print 0")
	order := func(threads ...int) []int {
		var list []int
		for _, x := range threads {
			list = append(list, x, 0)
		}
		return list
	}
	for _, x := range []struct {
		script []int
		order  []int
	}{
		{nil, order(0, 0, 1, 1, 2, 2)},
		{[]int{}, order(0, 0, 1, 1, 2, 2)},
		{[]int{2}, order(2, 0, 0, 1, 1, 2)},
		{[]int{1, 1, 1, 1}, order(1, 1, 2, 2, 0, 0)},
		{[]int{3, 4, 5, 6}, order(0, 1, 2, 0, 1, 2)},
		{[]int{-1, -1, -1, -1, 9}, order(2, 2, 1, 1, 0, 0)},
		{[]int{-2, -3, -4, -5}, order(1, 0, 2, 1, 0, 2)},
		{[]int{math.MaxInt, math.MinInt, 0, 0}, order(1, 1, 0, 0, 2, 2)},
		{[]int{0, 0, 1, 0, 1, 1, 1, 1, 1, 1}, order(0, 0, 2, 1, 2, 1)},
	} {
		want(t, x.script, run(t, three, x.script...), api.Trace{Prints: x.order, Steps: 6})
	}
}

// B2: a place is one among those that are able, not among all threads, and one alone takes no number.
func TestScriptAmongAble(t *testing.T) {
	p := program(t, "words; locks 1; regs 1", "", "lock 0; print 0; unlock 0", "lock 0; print 0; unlock 0", "print 0; print 0")
	r := run(t, p, 0, 1, 0, 1, 0)
	want(t, "threads 1 and 3 are able", r, api.Trace{Prints: []int{3, 0, 1, 0, 3, 0, 2, 0}, Steps: 8})
	alone := program(t, "words; locks 1; regs 1", "lock 0; print 0; print 0; unlock 0; print 0; print 0", "lock 0; print 0; unlock 0")
	r = run(t, alone, 0, 1, 0, 1, 1)
	want(t, "numbers wait while one alone is able", r, api.Trace{Prints: []int{0, 0, 0, 0, 0, 0, 1, 0, 0, 0}, Steps: 9})
}

// B2 and its example: both orders of a store and a load are run, and no other numbers come.
func TestStoreBuffering(t *testing.T) {
	p := program(t, "words 0 0; locks 0; regs 2", "const 0 1; store 0 0; load 1 1; print 1", "const 0 1; store 1 0; load 1 0; print 1")
	seen := map[[2]int]int{}
	for script := range 256 {
		numbers := make([]int, 8)
		for i := range numbers {
			numbers[i] = script >> i & 1
		}
		r := run(t, p, numbers...)
		if r.Status != api.Done || r.Steps != 8 || len(r.Prints) != 4 || !slices.Equal(r.Words, []int{1, 1}) {
			t.Fatal(numbers, r)
		}
		var loaded [2]int
		loaded[r.Prints[0]], loaded[r.Prints[2]] = r.Prints[1], r.Prints[3]
		seen[loaded]++
	}
	if seen[[2]int{0, 0}] != 0 || seen[[2]int{0, 1}] == 0 || seen[[2]int{1, 0}] == 0 || seen[[2]int{1, 1}] == 0 {
		t.Error(seen)
	}
}

// B1: Check's fault, with nothing beside it.
func TestRefuses(t *testing.T) {
	fence := api.Instr{Op: api.OpFence}
	for _, p := range []api.Program{
		{},
		{Code: make([][]api.Instr, 5), Regs: 1},
		{Code: [][]api.Instr{{}}, Words: make([]int, 65), Regs: 1},
		{Code: [][]api.Instr{{}}, Regs: 0},
		{Code: [][]api.Instr{{}}, Regs: math.MaxInt},
		{Code: [][]api.Instr{{}}, Regs: 1, Locks: -1},
		{Code: [][]api.Instr{{}}, Regs: 1, Locks: 5},
		{Code: [][]api.Instr{{}, slices.Repeat([]api.Instr{fence}, 401)}, Regs: 1},
		{Code: [][]api.Instr{{fence}, {fence, {Op: 19}}}, Regs: 1},
		{Code: [][]api.Instr{{fence}, {fence, fence, {Op: 0}}}, Regs: 1},
		{Code: [][]api.Instr{{{Op: api.OpPrint, A: 1}}}, Regs: 1},
		{Code: [][]api.Instr{{{Op: api.OpLoad}}}, Regs: 1},
		{Code: [][]api.Instr{{{Op: api.OpLock}}}, Regs: 1},
		{Code: [][]api.Instr{{{Op: api.OpJump, A: 2}}}, Regs: 1},
	} {
		r, f := sc.Run(p, []int{1, 2, 3})
		if f.Code == api.OK || f != asm.Check(p) || len(r.Prints)+len(r.Words)+r.Status+r.Steps != 0 {
			t.Errorf("%v: %v, %v", p, r, f)
		}
	}
}

// P3: what is handed in stays as it is, what comes out is new, and each run of the same is the same.
func TestNothingShared(t *testing.T) {
	behind := []int{1, 2, 3, 4, 5, 6}
	given := func() (api.Program, []int) {
		p := program(t, "words 1 2; locks 1; regs 1", "lock 0; const 0 1; store 1 0; print 0; unlock 0", "load 0 1; print 0; const 0 1; storeat 0 0; print 0")
		p.Words = slices.Clone(behind)[:2]
		return p, slices.Clone(behind)[:4]
	}
	p, script := given()
	before, numbers := given()
	first := run(t, p, script...)
	again := run(t, p, script...)
	if !reflect.DeepEqual(first, again) {
		t.Error(first, again)
	}
	if !reflect.DeepEqual(p, before) || !slices.Equal(script, numbers) || !slices.Equal(p.Words[:6], behind[:6]) || !slices.Equal(script[:6], behind[:6]) {
		t.Error("changed:", p, script)
	}
	for i := range first.Words {
		first.Words[i] = 99
	}
	for i := range first.Prints {
		first.Prints[i] = 99
	}
	if !slices.Equal(p.Words, behind[:2]) || slices.Contains(script, 99) || slices.Contains(again.Words, 99) || slices.Contains(again.Prints, 99) {
		t.Error("shared:", p, script, again)
	}
}

// What a memory tells of its words stays as it was, whatever is stored later on.
func TestWordsOfMemory(t *testing.T) {
	m := sc.NewPlain(program(t, "words 1 2; locks 0; regs 1", ""))
	told := m.Words()
	m.Store(0, 1, 9)
	told[0] = 8
	if !slices.Equal(told, []int{8, 2}) || !slices.Equal(m.Words(), []int{1, 9}) {
		t.Error(told, m.Words())
	}
}
