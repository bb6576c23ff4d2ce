package tso_test

import (
	"math"
	"reflect"
	"slices"
	"strconv"
	"strings"
	"testing"

	"sluice/api"
	"sluice/asm"
	"sluice/sc"
	"sluice/tso"
)

// program is that of a text; orders of a thread are parted by "; ".
func program(t *testing.T, head string, threads ...string) api.Program {
	t.Helper()
	text := strings.ReplaceAll(head, "; ", "\n") + "\n"
	for _, orders := range threads {
		text += "thread\n"
		if orders != "" {
			text += strings.ReplaceAll(orders, "; ", "\n") + "\n"
		}
	}
	p, f := asm.Parse(text)
	if f.Code != api.OK {
		t.Fatalf("%q: %v", text, f)
	}
	return p
}

func run(t *testing.T, p api.Program, script ...int) api.Trace {
	t.Helper()
	r, f := tso.Run(p, script)
	if f != (api.Fault{}) {
		t.Fatalf("%v: %v", p, f)
	}
	return r
}

// alike holds traces against each other; an empty list may be nil or not.
func alike(a, b api.Trace) bool {
	return a.Status == b.Status && a.Steps == b.Steps && slices.Equal(a.Prints, b.Prints) && slices.Equal(a.Words, b.Words)
}

func want(t *testing.T, what any, got, want api.Trace) {
	t.Helper()
	if !alike(got, want) {
		t.Errorf("%v: %v, want %v", what, got, want)
	}
}

// printed tells what a single thread prints.
func printed(numbers ...int) []int {
	var list []int
	for _, n := range numbers {
		list = append(list, 0, n)
	}
	return list
}

// dice gives numbers that are the same each time, and look as if they were not.
type dice uint64

func (d *dice) below(n int) int {
	*d = *d*6364136223846793005 + 1442695040888963407
	return int(uint64(*d) >> 33 % uint64(n))
}

// scripts are many of one length.
func scripts(count, length int) [][]int {
	d := dice(7)
	list := make([][]int, count)
	for i := range list {
		for range length {
			list[i] = append(list[i], d.below(840)-420)
		}
	}
	return list
}

// loaded tells what threads 0 and 1 print, each one number.
func loaded(t *testing.T, r api.Trace) [2]int {
	t.Helper()
	if r.Status != api.Done || len(r.Prints) != 4 {
		t.Fatal(r)
	}
	var pair [2]int
	pair[r.Prints[0]], pair[r.Prints[2]] = r.Prints[1], r.Prints[3]
	return pair
}

// C1, the chapter's example: each of both can load 0 or 1; both 0 just where stores wait.
func TestStoreBuffering(t *testing.T) {
	p := program(t, "words 0 0; locks 0; regs 2", "const 0 1; store 0 0; load 1 1; print 1", "const 0 1; store 1 0; load 1 0; print 1")
	r := run(t, p, 0, 0, 0, 0, 1, 1, 1, 1)
	want(t, "both wait", r, api.Trace{Prints: []int{0, 0, 1, 0}, Words: []int{1, 1}, Steps: 10})
	seen := map[[2]int]int{}
	for _, script := range scripts(3000, 10) {
		r := run(t, p, script...)
		if r.Steps != 10 || !slices.Equal(r.Words, []int{1, 1}) {
			t.Fatal(script, r)
		}
		seen[loaded(t, r)]++
		if q, _ := sc.Run(p, script); loaded(t, q) == [2]int{} {
			t.Fatal("without waiting:", script, q)
		}
	}
	if len(seen) != 4 || seen[[2]int{0, 0}] == 0 || seen[[2]int{1, 1}] == 0 {
		t.Error(seen)
	}
}

// C1: a fence and a cas are not done while something waits: both threads never load 0 with one of them between.
func TestNothingWaitsBehind(t *testing.T) {
	for _, x := range []string{"fence", "cas 2 2 2", "lock 0; unlock 0"} {
		head := "words 0 0 0; locks 2; regs 3"
		p := program(t, head, "const 0 1; store 0 0; "+x+"; load 1 1; print 1", "const 0 1; store 1 0; "+strings.ReplaceAll(x, "lock 0", "lock 1")+"; load 1 0; print 1")
		for _, script := range scripts(2000, 14) {
			if r := run(t, p, script...); loaded(t, r) == [2]int{} {
				t.Fatal(x, script, r)
			}
		}
	}
}

// C1: stores of a thread are done in the order in which they were put, so that who sees the second one sees the first one.
func TestFirstComesFirst(t *testing.T) {
	p := program(t, "words 0 0; locks 0; regs 2", "const 0 1; store 0 0; store 1 0", "load 0 1; load 1 0; print 0; print 1")
	seen := map[[2]int]int{}
	for _, script := range scripts(2000, 10) {
		r := run(t, p, script...)
		seen[[2]int{r.Prints[1], r.Prints[3]}]++
	}
	if seen[[2]int{1, 0}] != 0 || len(seen) != 3 {
		t.Error(seen)
	}
}

// C1: a thread loads what its own last store for the word says; other threads load what the word holds.
func TestOwnStores(t *testing.T) {
	orders := "const 0 5; store 0 0; const 0 6; store 1 0; const 0 7; store 0 0; load 1 0; print 1; load 1 1; print 1; load 1 2; print 1; const 1 0; loadat 1 1; print 1"
	p := program(t, "words 1 2 3; locks 0; regs 2", orders)
	want(t, "own", run(t, p), api.Trace{Prints: printed(7, 6, 3, 7), Words: []int{7, 6, 3}, Steps: 18})
	p = program(t, "words 1 2; locks 0; regs 2", "const 0 5; const 1 1; storeat 1 0; load 1 1; print 1; load 1 0; print 1", "load 0 1; print 0")
	// Thread 0 goes to its end; then its store waits at place 0, thread 1's orders stand at place 1.
	r := run(t, p, 0, 0, 0, 0, 0, 0, 0, 1, 1)
	want(t, "not another's", r, api.Trace{Prints: []int{0, 5, 0, 1, 1, 2}, Words: []int{1, 5}, Steps: 10})
	r = run(t, p, 0, 0, 0, 0, 0, 0, 0, 0)
	want(t, "done, and seen", r, api.Trace{Prints: []int{0, 5, 0, 1, 1, 5}, Words: []int{1, 5}, Steps: 10})
}

// C1: a lock that waits to become free is none of the stores into the word of its number.
func TestLockIsNoWord(t *testing.T) {
	p := program(t, "words 4 5; locks 2; regs 1", "lock 1; lock 0; unlock 0; load 0 0; print 0; unlock 1; load 0 1; print 0")
	want(t, "lock", run(t, p), api.Trace{Prints: printed(4, 5), Words: []int{4, 5}, Steps: 10})
	p = program(t, "words 4; locks 1; regs 1", "lock 0; store 0 0; unlock 0")
	want(t, "a word's store is no lock's", run(t, p), api.Trace{Words: []int{0}, Steps: 5})
}

// C1: a store is able just while fewer than MaxBuffer wait: the script's 0 picks what is first done then.
func TestFullBuffer(t *testing.T) {
	if api.MaxBuffer != 3 {
		t.Fatal(api.MaxBuffer)
	}
	see := "load 0 0; print 0"
	for _, x := range []struct {
		name, orders string
	}{
		{"store", "const 0 1; store 0 0; store 1 0; store 2 0; store 3 0"},
		{"storeat", "const 0 1; storeat 1 0; storeat 1 0; storeat 1 0; storeat 0 0"},
		{"unlock", "lock 0; const 0 1; store 0 0; store 1 0; store 2 0; unlock 0"},
	} {
		p := program(t, "words 0 0 0 0; locks 1; regs 2", x.orders, see)
		ahead := make([]int, strings.Count(x.orders, ";"))
		// Thread 0 does all but its last order, and three stores wait; then 0 is that the first one is done, as the last order is not able.
		// Now it is: thread 1 stands at place 2 of three (5 would be place 1 of two).
		r := run(t, p, append(slices.Clone(ahead), 0, 5, 5)...)
		if r.Status != api.Done || !slices.Equal(r.Prints, []int{1, 1}) {
			t.Error(x.name, "able again:", r)
		}
		// While they wait, thread 1 stands at place 1 of two.
		r = run(t, p, append(slices.Clone(ahead), 1, 1)...)
		if r.Status != api.Done || !slices.Equal(r.Prints, []int{1, 0}) {
			t.Error(x.name, "not able:", r)
		}
	}
	p := program(t, "words 5 5; locks 1; regs 1", "lock 0; store 0 0; store 0 0; unlock 0; store 1 0", see)
	want(t, "a lock that waits counts", run(t, p, 0, 0, 0, 0, 0, 5, 5), api.Trace{Prints: []int{1, 0}, Words: []int{0, 0}, Steps: 11})
}

// C1: orders that no buffer has to do with are able while it is full: the run comes to the one that falls with nothing done.
func TestAbleWhereFull(t *testing.T) {
	others := "const 0 0; move 1 0; add 1 0 0; sub 1 0 0; mul 1 0 0; less 1 0 0; same 1 0 0; load 1 0; loadat 1 0; print 1; jump 14; zero 0 15; const 0 -1; loadat 0 0"
	p := program(t, "words 9; locks 0; regs 2", "store 0 0; store 0 0; store 0 0; "+others)
	want(t, "all else", run(t, p), api.Trace{Status: api.Fell, Prints: printed(0), Words: []int{9}, Steps: 17})
}

// C1: a fence, a cas and a lock are able just while nothing waits in the thread's own buffer.
func TestAbleWhereEmpty(t *testing.T) {
	for _, order := range []string{"fence", "cas 1 1 1", "lock 0"} {
		p := program(t, "words 0 0; locks 1; regs 2", "const 0 1; store 0 0; "+order, "load 0 0; print 0")
		// Behind the store 0 picks that it is done, as the order is not able; then thread 1 is picked.
		r := run(t, p, 0, 0, 0, 1, 1)
		want(t, order, r, api.Trace{Prints: []int{1, 1}, Words: []int{1, 0}, Steps: 6})
		r = run(t, p, 0, 0, 1, 1)
		want(t, []any{order, "at its time"}, r, api.Trace{Prints: []int{1, 0}, Words: []int{1, 0}, Steps: 6})
		p = program(t, "words 0 0; locks 1; regs 2", order+"; print 1", "const 0 1; store 0 0")
		r = run(t, p, 1, 1, 0, 0)
		want(t, []any{order, "another's buffer"}, r, api.Trace{Prints: printed(cas(order)), Words: []int{1, 0}, Steps: 5})
	}
}

// cas tells what register 1 holds behind an order of TestAbleWhereEmpty.
func cas(order string) int {
	if strings.HasPrefix(order, "cas") {
		return 1
	}
	return 0
}

// C1: a cas sees what is stored, as nothing of its thread waits then, and changes the word at once.
func TestCas(t *testing.T) {
	p := program(t, "words 3; locks 0; regs 3", "const 1 5; store 0 1; const 2 6; cas 0 1 2; print 1; cas 0 1 2; print 1")
	want(t, "cas", run(t, p), api.Trace{Prints: printed(1, 0), Words: []int{6}, Steps: 8})
	p = program(t, "words 3; locks 0; regs 3", "const 1 3; cas 0 1 2", "load 0 0; print 0")
	want(t, "at once", run(t, p, 0, 0), api.Trace{Prints: []int{1, 0}, Words: []int{0}, Steps: 4})
}

// C1, C2: a lock becomes free when that is done, not when it is put.
func TestUnlockWaits(t *testing.T) {
	p := program(t, "words; locks 1; regs 1", "lock 0; unlock 0; print 0; print 0", "lock 0; print 0")
	want(t, "not yet free", run(t, p, 0, 0, 1, 1, 1), api.Trace{Prints: []int{0, 0, 1, 0, 0, 0}, Steps: 7})
	// While it waits, thread 1 is not able: two are there to be picked, thread 0's order and that the lock becomes free.
	want(t, "one of two", run(t, p, 0, 2, 2), api.Trace{Prints: []int{0, 0, 0, 0, 1, 0}, Steps: 7})
	p = program(t, "words; locks 1; regs 1", "lock 0; unlock 0; lock 0; print 0")
	want(t, "its own", run(t, p), api.Trace{Prints: printed(0), Steps: 5})
	section := "lock 0; load 0 0; const 1 1; add 0 0 1; store 0 0; unlock 0"
	p = program(t, "words 0; locks 1; regs 2", section, section, section)
	for _, script := range scripts(1000, 30) {
		want(t, script, run(t, p, script...), api.Trace{Words: []int{3}, Steps: 24})
	}
}

// C1: a run falls at an unlock of what the thread has not taken, or of what waits to become free already.
func TestFallsAtUnlock(t *testing.T) {
	p := program(t, "words 4; locks 1; regs 1", "print 0; unlock 0; print 0")
	want(t, "free", run(t, p), api.Trace{Status: api.Fell, Prints: printed(0), Words: []int{4}, Steps: 2})
	p = program(t, "words; locks 2; regs 1", "lock 0; unlock 1")
	want(t, "another lock", run(t, p), api.Trace{Status: api.Fell, Steps: 2})
	p = program(t, "words; locks 1; regs 1", "lock 0; unlock 0; unlock 0")
	want(t, "waits already", run(t, p), api.Trace{Status: api.Fell, Steps: 3})
	want(t, "free again", run(t, p, 1), api.Trace{Status: api.Fell, Steps: 4})
	p = program(t, "words; locks 2; regs 1", "lock 0; lock 1; unlock 0; unlock 1; unlock 0")
	want(t, "waits ahead of another one", run(t, p), api.Trace{Status: api.Fell, Steps: 5})
	p = program(t, "words; locks 1; regs 1", "lock 0; print 0", "unlock 0")
	want(t, "another thread's", run(t, p, 0, 1), api.Trace{Status: api.Fell, Steps: 2})
	p = program(t, "words; locks 1; regs 1", "lock 0; unlock 0; print 0", "unlock 0")
	want(t, "another thread's, that waits", run(t, p, 0, 0, 2), api.Trace{Status: api.Fell, Steps: 3})
	p = program(t, "words; locks 1; regs 1", "lock 0; unlock 0; lock 0; unlock 0; fence")
	want(t, "taken again", run(t, p), api.Trace{Steps: 7})
}

// C1: an order that is not able does not fall: of a full buffer the first store is done ahead of that.
func TestFallsWhereAble(t *testing.T) {
	fill := "const 1 -1; const 0 8; store 0 0; store 1 0; store 2 0; "
	for _, x := range []struct {
		order string
		end   api.Trace
	}{
		{"unlock 0", api.Trace{Status: api.Fell, Words: []int{8, 0, 0}, Steps: 7}},
		{"storeat 1 0", api.Trace{Status: api.Fell, Words: []int{8, 0, 0}, Steps: 7}},
		{"loadat 0 1", api.Trace{Status: api.Fell, Words: []int{0, 0, 0}, Steps: 6}},
	} {
		want(t, x.order, run(t, program(t, "words 0 0 0; locks 1; regs 2", fill+x.order)), x.end)
	}
}

// C1, C3: a run falls where a register holds the number of no word; what waits then is not among the words.
func TestFallsAtNoWord(t *testing.T) {
	for _, n := range []int{-1, 2, 3, 64, math.MaxInt, math.MinInt} {
		for _, order := range []string{"loadat 1 0", "storeat 0 1"} {
			p := program(t, "words 3 4; locks 0; regs 2", "const 0 9; store 1 0; const 0 "+strconv.Itoa(n)+"; print 1; "+order+"; print 1")
			want(t, []any{n, order}, run(t, p), api.Trace{Status: api.Fell, Prints: printed(0), Words: []int{3, 4}, Steps: 5})
			want(t, []any{n, order, "done"}, run(t, p, 0, 1), api.Trace{Status: api.Fell, Prints: printed(0), Words: []int{3, 9}, Steps: 6})
		}
	}
	for _, order := range []string{"loadat 0 0", "storeat 0 0"} {
		want(t, "no words", run(t, program(t, "words; locks 0; regs 1", order)), api.Trace{Status: api.Fell, Steps: 1})
	}
}

// C2: thread by thread its order, then what waits of it; numbers are taken where there are two of these at least.
func TestPicks(t *testing.T) {
	p := program(t, "words 0 0; locks 0; regs 1", "const 0 1; store 0 0; print 0; print 0", "const 0 2; store 1 0; print 0; print 0", "load 0 0; print 0; load 0 1; print 0")
	// Behind four numbers both stores wait: places are 0 and 1 of thread 0, 2 and 3 of thread 1, 4 of thread 2.
	both := []int{0, 0, 2, 2}
	for _, x := range []struct {
		rest   []int
		prints []int
	}{
		{[]int{4, 4, 4, 4, 0, 0, 1, 1, 0}, []int{2, 0, 2, 0, 0, 1, 0, 1, 1, 2, 1, 2}},
		{[]int{1, 3, 3, 3, 3, 0, 0, 0, 0}, []int{2, 1, 2, 0, 0, 1, 0, 1, 1, 2, 1, 2}},
		{[]int{3, 3, 3, 3, 3, 0, 0, 0, 0}, []int{2, 0, 2, 2, 0, 1, 0, 1, 1, 2, 1, 2}},
		{[]int{-4, -2, -1, -1, -1, -1, 0, 0, 0}, []int{2, 1, 2, 2, 0, 1, 0, 1, 1, 2, 1, 2}},
		{[]int{2, 0, 2, 0, 4, 1, 2, 0, 2, 1}, []int{1, 2, 0, 1, 1, 2, 0, 1, 2, 0, 2, 2}},
		{[]int{5, 11, 7, 9}, []int{0, 1, 1, 2, 0, 1, 1, 2, 2, 1, 2, 2}},
	} {
		r := run(t, p, append(slices.Clone(both), x.rest...)...)
		want(t, x.rest, r, api.Trace{Prints: x.prints, Words: []int{1, 2}, Steps: 14})
	}
}

// C2: of one thread alone, its order and what waits are two, from which the script picks.
func TestScriptOfOneThread(t *testing.T) {
	p := program(t, "words 0; locks 1; regs 1", "const 0 1; store 0 0; print 0; unlock 0")
	want(t, "no number is taken ahead of the store", run(t, p, 1), api.Trace{Status: api.Fell, Prints: printed(1), Words: []int{1}, Steps: 5})
	want(t, "first the order", run(t, p, 0, 1), api.Trace{Status: api.Fell, Prints: printed(1), Words: []int{1}, Steps: 5})
	want(t, "below 0", run(t, p, -2, -1), api.Trace{Status: api.Fell, Prints: printed(1), Words: []int{1}, Steps: 5})
	want(t, "never", run(t, p, 0, 2), api.Trace{Status: api.Fell, Prints: printed(1), Words: []int{0}, Steps: 4})
	want(t, "at its end", run(t, p), api.Trace{Status: api.Fell, Prints: printed(1), Words: []int{0}, Steps: 4})
}

// C3: Done when all threads have ended, and nothing waits.
func TestDone(t *testing.T) {
	want(t, "nothing", run(t, program(t, "words; locks 0; regs 1", "")), api.Trace{})
	want(t, "four of nothing", run(t, program(t, "words 3 -4; locks 4; regs 200", "", "", "", ""), 1, 2, 3), api.Trace{Words: []int{3, -4}})
	p := program(t, "words 0 0; locks 1; regs 1", "lock 0; const 0 1; store 0 0; store 1 0; unlock 0", "")
	want(t, "all is done at last", run(t, p), api.Trace{Words: []int{1, 1}, Steps: 8})
	p = program(t, "words 0; locks 0; regs 1", "const 0 1; store 0 0", "const 0 2; store 0 0")
	want(t, "the last is the second one's", run(t, p), api.Trace{Words: []int{2}, Steps: 6})
	want(t, "the last is the first one's", run(t, p, 0, 0, 1, 1, 1), api.Trace{Words: []int{1}, Steps: 6})
}

// C3: Stuck where nothing is to be picked: what waits is done ahead of that.
func TestStuck(t *testing.T) {
	p := program(t, "words 7; locks 1; regs 1", "lock 0; store 0 0; lock 0; print 0")
	want(t, "own lock", run(t, p), api.Trace{Status: api.Stuck, Words: []int{0}, Steps: 3})
	p = program(t, "words; locks 1; regs 1", "lock 0", "print 0; lock 0; print 0")
	want(t, "a lock that is kept", run(t, p), api.Trace{Status: api.Stuck, Prints: []int{1, 0}, Steps: 2})
	p = program(t, "words; locks 2; regs 1", "lock 0; lock 1; unlock 1; unlock 0", "lock 1; lock 0; unlock 0; unlock 1")
	want(t, "in unlike order", run(t, p, 0, 1), api.Trace{Status: api.Stuck, Steps: 2})
	want(t, "one ahead of the other", run(t, p, 0, 0), api.Trace{Steps: 12})
}

// C1, C2: MaxSteps steps may be done, with those of stores that waited; ahead of one more the run is Out.
func TestOut(t *testing.T) {
	want(t, "forever", run(t, program(t, "words 1; locks 0; regs 1", "jump 0")), api.Trace{Status: api.Out, Words: []int{1}, Steps: 5000})
	p := program(t, "words 0; locks 0; regs 1", "const 0 7; store 0 0; jump 2")
	want(t, "waits forever", run(t, p), api.Trace{Status: api.Out, Words: []int{0}, Steps: 5000})
	want(t, "done once", run(t, p, 1), api.Trace{Status: api.Out, Words: []int{7}, Steps: 5000})
	// 4996 steps come ahead of the last orders: 3 at first, 1248 rounds of 4, and the zero that leaves.
	for _, x := range []struct {
		last string
		end  api.Trace
	}{
		{"fence; fence; fence; fence", api.Trace{Words: []int{1}, Steps: 5000}},
		{"store 0 0; store 0 0", api.Trace{Words: []int{0}, Steps: 5000}},
		{"fence; store 0 0; store 0 0", api.Trace{Status: api.Out, Words: []int{0}, Steps: 5000}},
		{"print 0; print 0; print 0; store 0 0", api.Trace{Status: api.Out, Prints: printed(0, 0, 0), Words: []int{1}, Steps: 5000}},
		{"print 0; print 0; store 0 0", api.Trace{Prints: printed(0, 0), Words: []int{0}, Steps: 5000}},
		{"lock 0; print 0; store 0 0; lock 0", api.Trace{Status: api.Stuck, Prints: printed(0), Words: []int{0}, Steps: 5000}},
		{"lock 0; store 0 0; unlock 0; unlock 0", api.Trace{Status: api.Fell, Words: []int{1}, Steps: 5000}},
		{"lock 0; print 0; store 0 0; unlock 0; unlock 0", api.Trace{Status: api.Out, Prints: printed(0), Words: []int{1}, Steps: 5000}},
	} {
		rounds := "const 0 1248; const 1 1; fence; zero 0 7; sub 0 0 1; fence; jump 3; "
		want(t, x.last, run(t, program(t, "words 1; locks 1; regs 2", rounds+x.last)), x.end)
	}
}

// C1: Check's fault, with nothing beside it.
func TestRefuses(t *testing.T) {
	fence := api.Instr{Op: api.OpFence}
	for _, p := range []api.Program{
		{},
		{Code: make([][]api.Instr, 5), Regs: 1},
		{Code: [][]api.Instr{{}}, Words: make([]int, 65), Regs: 1},
		{Code: [][]api.Instr{{}}, Regs: 0},
		{Code: [][]api.Instr{{}}, Regs: math.MaxInt},
		{Code: [][]api.Instr{{}}, Regs: 1, Locks: -1},
		{Code: [][]api.Instr{{}}, Regs: 1, Locks: 5},
		{Code: [][]api.Instr{{}, slices.Repeat([]api.Instr{fence}, 401)}, Regs: 1},
		{Code: [][]api.Instr{{fence}, {fence, {Op: 19}}}, Regs: 1},
		{Code: [][]api.Instr{{fence}, {fence, fence, {Op: 0}}}, Regs: 1},
		{Code: [][]api.Instr{{{Op: api.OpStore}}}, Regs: 1},
		{Code: [][]api.Instr{{{Op: api.OpUnlock}}}, Regs: 1},
		{Code: [][]api.Instr{{{Op: api.OpJump, A: 2}}}, Regs: 1},
	} {
		r, f := tso.Run(p, []int{1, 2, 3})
		if f.Code == api.OK || f != asm.Check(p) || len(r.Prints)+len(r.Words)+r.Status+r.Steps != 0 {
			t.Errorf("%v: %v, %v", p, r, f)
		}
	}
}

// P3: what is handed in stays as it is, what comes out is new, and each run of the same is the same.
func TestNothingShared(t *testing.T) {
	behind := []int{1, 2, 3, 4, 5, 6}
	given := func() (api.Program, []int) {
		p := program(t, "words 1 2; locks 1; regs 1", "lock 0; const 0 1; store 1 0; print 0; unlock 0", "load 0 1; print 0; const 0 1; storeat 0 0; print 0")
		p.Words = slices.Clone(behind)[:2]
		return p, slices.Clone(behind)[:4]
	}
	p, script := given()
	before, numbers := given()
	first := run(t, p, script...)
	again := run(t, p, script...)
	if !reflect.DeepEqual(first, again) {
		t.Error(first, again)
	}
	if !reflect.DeepEqual(p, before) || !slices.Equal(script, numbers) || !slices.Equal(p.Words[:6], behind) || !slices.Equal(script[:6], behind) {
		t.Error("changed:", p, script)
	}
	for i := range first.Words {
		first.Words[i] = 99
	}
	for i := range first.Prints {
		first.Prints[i] = 99
	}
	if !slices.Equal(p.Words, behind[:2]) || slices.Contains(script, 99) || slices.Contains(again.Words, 99) || slices.Contains(again.Prints, 99) {
		t.Error("shared:", p, script, again)
	}
}
