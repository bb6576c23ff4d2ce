package fence_test

import (
	"fmt"
	"math"
	"reflect"
	"slices"
	"strconv"
	"strings"
	"testing"

	"sluice/api"
	"sluice/asm"
	"sluice/fence"
	"sluice/space"
)

// program is that of a text; orders of a thread are parted by "; ".
func program(t *testing.T, head string, threads ...string) api.Program {
	t.Helper()
	text := strings.ReplaceAll(head, "; ", "\n") + "\n"
	for _, orders := range threads {
		text += "thread\n"
		if orders = strings.Trim(orders, "; "); orders != "" {
			text += strings.ReplaceAll(orders, "; ", "\n") + "\n"
		}
	}
	p, f := asm.Parse(text)
	if f.Code != api.OK {
		t.Fatalf("%q: %v", text, f)
	}
	return p
}

// same tells whether programs are; an empty list may be nil or not.
func same(a, b api.Program) bool {
	return slices.Equal(a.Words, b.Words) && a.Locks == b.Locks && a.Regs == b.Regs && slices.EqualFunc(a.Code, b.Code, slices.Equal)
}

// made tells what the function makes of a program that it does not refuse.
func made(t *testing.T, of func(api.Program) (api.Program, api.Fault), p api.Program) api.Program {
	t.Helper()
	q, f := of(p)
	if f != (api.Fault{}) {
		t.Fatalf("%v: %v", p, f)
	}
	if f := asm.Check(q); f.Code != api.OK {
		t.Fatalf("%v became %v: %v", p, q, f)
	}
	return q
}

// refused holds what the function answers of a program that it refuses.
func refused(t *testing.T, what any, of func(api.Program) (api.Program, api.Fault), p api.Program, want api.Fault) {
	t.Helper()
	q, f := of(p)
	if f != want || !reflect.DeepEqual(q, api.Program{}) {
		t.Errorf("%v: %v %v, want %v", what, q, f, want)
	}
}

// scene is a program's orders, and what becomes of them.
type scene struct{ what, orders, want string }

func play(t *testing.T, of func(api.Program) (api.Program, api.Fault), list []scene) {
	t.Helper()
	head := "words 7 -8 9; locks 2; regs 5"
	for _, x := range list {
		if got := made(t, of, program(t, head, x.orders)); !same(got, program(t, head, x.want)) {
			t.Errorf("%s: %v", x.what, got)
		}
		// What other threads have makes no difference.
		got := made(t, of, program(t, head, "jump 2; print 0", x.orders, "", x.orders))
		if !same(got, program(t, head, "jump 2; print 0", x.want, "", x.want)) {
			t.Errorf("%s, among threads: %v", x.what, got)
		}
	}
}

// F1: there is a fence behind each of the three orders, behind no other one; numbers stay as they are, but those of orders.
func TestFull(t *testing.T) {
	others := "const 3 3; move 4 1; add 4 3 2; sub 4 3 2; mul 4 3 2; less 4 3 2; same 4 3 2; load 4 2; loadat 4 3; fence; cas 2 3 4; print 4; lock 1"
	play(t, fence.Full, []scene{
		{"nothing", "", ""},
		{"store", "store 2 4", "store 2 4; fence"},
		{"storeat", "storeat 3 4", "storeat 3 4; fence"},
		{"unlock", "unlock 1", "unlock 1; fence"},
		{"no other one", others, others},
		{"ahead of others", "store 2 4; " + others, "store 2 4; fence; " + others},
		{"behind others", others + "; store 2 4", others + "; store 2 4; fence"},
		{"each", "store 2 4; storeat 3 4; print 1; store 0 0; unlock 0", "store 2 4; fence; storeat 3 4; fence; print 1; store 0 0; fence; unlock 0; fence"},
		{"where there is one", "store 2 4; fence", "store 2 4; fence; fence"},
		{"where no way comes", "jump 2; store 0 0", "jump 3; store 0 0; fence"},
		{"numbers that look like places", "store 0 0; const 1 1; const 2 2; store 2 1; const 3 4; cas 2 1 3", "store 0 0; fence; const 1 1; const 2 2; store 2 1; fence; const 3 4; cas 2 1 3"},
	})
}

// F1: numbers that told an order tell it at its new place: not the fence ahead of it; the one behind the last stays so.
func TestFullLeadsJumps(t *testing.T) {
	play(t, fence.Full, []scene{
		{"to a store", "jump 1; store 0 0; print 0", "jump 1; store 0 0; fence; print 0"},
		{"to what is behind a store", "jump 2; store 0 0; print 0", "jump 3; store 0 0; fence; print 0"},
		{"behind the last, a store", "jump 2; store 0 0", "jump 3; store 0 0; fence"},
		{"behind the last, another", "store 0 0; jump 3; print 0", "store 0 0; fence; jump 4; print 0"},
		{"back", "store 0 0; print 0; store 1 1; jump 1", "store 0 0; fence; print 0; store 1 1; fence; jump 2"},
		{"to the first", "store 0 0; store 1 1; jump 0", "store 0 0; fence; store 1 1; fence; jump 0"},
		{"to itself", "store 0 0; jump 1", "store 0 0; fence; jump 2"},
		{"zero ahead", "zero 3 4; store 0 0; unlock 1; print 0; print 1", "zero 3 6; store 0 0; fence; unlock 1; fence; print 0; print 1"},
		{"zero back", "print 0; store 0 0; storeat 1 1; zero 2 2", "print 0; store 0 0; fence; storeat 1 1; fence; zero 2 3"},
		{"zero's register", "store 0 0; zero 1 1; zero 2 2", "store 0 0; fence; zero 1 2; zero 2 3"},
		{"to a fence that was there", "store 0 0; fence; jump 1", "store 0 0; fence; fence; jump 2"},
		{"by all", "zero 0 0; zero 0 1; store 0 0; zero 0 2; zero 0 3; store 0 0; zero 0 4; zero 0 5; zero 0 6; zero 0 9", "zero 0 0; zero 0 1; store 0 0; fence; zero 0 2; zero 0 4; store 0 0; fence; zero 0 5; zero 0 6; zero 0 8; zero 0 11"},
	})
}

// mixed is so many orders of a thread, so many of which are stores.
func mixed(orders, stores int) []api.Instr {
	code := slices.Repeat([]api.Instr{{Op: api.OpPrint}}, orders-stores)
	return append(code, slices.Repeat([]api.Instr{{Op: api.OpStore}}, stores)...)
}

// F1: MaxCode orders are not too many, one more is: of the first such thread, at 0.
func TestFullSizes(t *testing.T) {
	full := func(code ...[]api.Instr) api.Program {
		return api.Program{Code: code, Words: []int{0}, Regs: 1}
	}
	for _, x := range [][2]int{{400, 0}, {399, 1}, {200, 200}, {201, 199}, {300, 100}} {
		q := made(t, fence.Full, full(mixed(x[0], x[1])))
		if len(q.Code[0]) != x[0]+x[1] {
			t.Error(x, len(q.Code[0]))
		}
	}
	for _, x := range [][2]int{{400, 1}, {399, 2}, {201, 200}, {201, 201}, {400, 400}, {301, 100}} {
		for thread := range 4 {
			code := [][]api.Instr{mixed(399, 1), mixed(200, 200), nil, mixed(400, 0)}
			code[thread] = mixed(x[0], x[1])
			refused(t, x, fence.Full, full(code...), api.Fault{Code: api.ErrSize, Thread: thread})
		}
	}
	refused(t, "the first of two", fence.Full, full(nil, mixed(400, 1), mixed(400, 400), nil), api.Fault{Code: api.ErrSize, Thread: 1})
	// The fault of a later thread, which is no program at all, comes first.
	refused(t, "Check's", fence.Full, full(mixed(400, 400), mixed(401, 0)), api.Fault{Code: api.ErrSize, Thread: 1})
	refused(t, "Check's", fence.Full, full(mixed(400, 400), []api.Instr{{Op: api.OpPrint}, {Op: api.OpLoad, B: 1}}), api.Fault{Code: api.ErrRange, Thread: 1, At: 1})
}

// F3: a fence is taken away, where on each way to it the last order that has to do with waiting is none that lets something wait.
func TestDrop(t *testing.T) {
	play(t, fence.Drop, []scene{
		{"nothing", "", ""},
		{"no fence", "store 0 0; print 0; unlock 1; jump 2", "store 0 0; print 0; unlock 1; jump 2"},
		{"alone", "fence", ""},
		{"at first", "fence; store 0 0; fence", "store 0 0; fence"},
		{"behind store", "store 2 4; fence; print 0", "store 2 4; fence; print 0"},
		{"behind storeat", "storeat 3 4; fence", "storeat 3 4; fence"},
		{"behind unlock", "unlock 1; fence", "unlock 1; fence"},
		{"behind cas", "store 0 0; cas 2 3 4; fence", "store 0 0; cas 2 3 4"},
		{"behind lock", "store 0 0; lock 1; fence", "store 0 0; lock 1"},
		{"behind fence", "store 0 0; fence; fence; fence", "store 0 0; fence"},
		{"what is between makes no difference", "store 0 0; const 1 1; move 4 1; add 4 3 2; sub 4 3 2; mul 4 3 2; less 4 3 2; same 4 3 2; load 4 2; loadat 4 3; print 4; fence; print 1; load 0 0; fence; print 0",
			"store 0 0; const 1 1; move 4 1; add 4 3 2; sub 4 3 2; mul 4 3 2; less 4 3 2; same 4 3 2; load 4 2; loadat 4 3; print 4; fence; print 1; load 0 0; print 0"},
		{"behind loads", "load 0 0; fence; print 0; fence; loadat 0 1; fence", "load 0 0; print 0; loadat 0 1"},
		{"the last one counts", "store 0 0; cas 0 0 0; unlock 0; fence; lock 0; fence; unlock 0; lock 1; storeat 0 0; fence", "store 0 0; cas 0 0 0; unlock 0; fence; lock 0; unlock 0; lock 1; storeat 0 0; fence"},
		{"each of many", "fence; fence; print 0; fence; print 1; fence", "print 0; print 1"},
	})
}

// F3: by OpJump, OpZero and what stands behind, whatever registers hold.
func TestDropByAllWays(t *testing.T) {
	play(t, fence.Drop, []scene{
		{"past a store", "jump 2; store 0 0; fence", "jump 2; store 0 0"},
		{"past a store, or not", "zero 0 2; store 0 0; fence", "zero 0 2; store 0 0; fence"},
		{"past a fence, or not", "store 0 0; zero 0 3; fence; fence", "store 0 0; zero 0 3; fence; fence"},
		{"past a fence", "store 0 0; jump 3; fence; fence; print 0", "store 0 0; jump 2; fence; print 0"},
		{"by a loop", "fence; zero 0 4; store 0 0; jump 0; fence; fence", "fence; zero 0 4; store 0 0; jump 0"},
		{"by a loop with a fence at its end", "fence; zero 0 5; store 0 0; fence; jump 0; fence", "zero 0 4; store 0 0; fence; jump 0"},
		{"by a loop from behind", "jump 3; fence; jump 5; store 0 0; zero 0 1; print 0", "jump 3; fence; jump 5; store 0 0; zero 0 1; print 0"},
		{"by a loop without a store", "store 0 0; fence; fence; print 0; zero 0 1", "store 0 0; fence; print 0; zero 0 1"},
		{"to the second of two fences", "store 0 0; fence; fence; print 0; zero 0 2", "store 0 0; fence; print 0; zero 0 2"},
		{"one way has it", "zero 0 3; cas 0 0 0; jump 4; store 0 0; fence", "zero 0 3; cas 0 0 0; jump 4; store 0 0; fence"},
		{"neither way has it", "store 0 0; zero 0 4; cas 0 0 0; jump 5; lock 0; fence; print 0", "store 0 0; zero 0 4; cas 0 0 0; jump 5; lock 0; print 0"},
		{"a register that holds 0 for sure", "const 0 0; zero 0 3; store 0 0; fence", "const 0 0; zero 0 3; store 0 0; fence"},
		{"a register that holds 1 for sure", "store 0 0; const 0 1; fence; zero 0 0; fence", "store 0 0; const 0 1; fence; zero 0 0"},
		{"no way", "jump 3; store 0 0; fence; print 0", "jump 2; store 0 0; print 0"},
		{"no way, in a loop of its own", "jump 4; store 0 0; fence; jump 1; print 0", "jump 3; store 0 0; jump 1; print 0"},
		{"a store without a way", "jump 3; store 0 0; jump 3; fence; print 0", "jump 3; store 0 0; jump 3; print 0"},
		{"no way behind an end", "store 0 0; jump 3; fence", "store 0 0; jump 2"},
		{"zero to what is behind it", "store 0 0; zero 0 2; fence", "store 0 0; zero 0 2; fence"},
		{"for ever", "fence; jump 0", "jump 0"},
		{"for ever, with a store", "fence; store 0 0; jump 0", "fence; store 0 0; jump 0"},
	})
}

// F1: who would go on at what is taken away goes on behind it.
func TestDropLeadsJumps(t *testing.T) {
	play(t, fence.Drop, []scene{
		{"to it", "jump 2; print 0; fence; print 1", "jump 2; print 0; print 1"},
		{"to several of them", "zero 1 2; zero 1 3; fence; fence; print 1; zero 1 4", "zero 1 2; zero 1 2; print 1; zero 1 2"},
		{"to the last", "zero 0 2; print 0; fence", "zero 0 2; print 0"},
		{"behind the last", "jump 4; print 0; fence; fence", "jump 2; print 0"},
		{"to what is ahead of it", "print 0; fence; zero 0 0", "print 0; zero 0 0"},
		{"back to it", "print 0; fence; print 1; zero 0 1", "print 0; print 1; zero 0 1"},
		{"to one that stays", "fence; store 0 0; fence; zero 0 2", "store 0 0; fence; zero 0 1"},
		{"numbers that look like places", "fence; const 1 1; const 2 2; store 2 1; fence; fence; const 3 4; cas 2 1 3; zero 3 3", "const 1 1; const 2 2; store 2 1; fence; const 3 4; cas 2 1 3; zero 3 2"},
	})
	all := slices.Repeat([]api.Instr{{Op: api.OpFence}}, api.MaxCode)
	all[0] = api.Instr{Op: api.OpJump, A: api.MaxCode}
	q := made(t, fence.Drop, api.Program{Code: [][]api.Instr{all, nil}, Regs: 1})
	if !same(q, api.Program{Code: [][]api.Instr{{{Op: api.OpJump, A: 1}}, nil}, Regs: 1}) {
		t.Error(q)
	}
}

// ends tells the outcomes of a program, and whether chapter 4 says anything of it.
func ends(t *testing.T, of func(api.Program) ([]api.Outcome, api.Fault), p api.Program) (string, bool) {
	t.Helper()
	list, f := of(p)
	if f.Code != api.OK && f != (api.Fault{Code: api.ErrFull}) {
		t.Fatal(p, f)
	}
	return told(list), f.Code == api.OK
}

// F1, F2: of many programs Full is what the second writing says, and what comes of it is what comes of them where nothing waits.
func TestFullAgainstOracle(t *testing.T) {
	d := dice(1)
	said, seen, stuck, fell := 0, 0, 0, 0
	for n := range 400 {
		p := anyProgram(&d, 3, 6, api.OpStore, api.OpStoreAt, api.OpUnlock, api.OpLock, api.OpLoad, api.OpPrint, api.OpZero)
		if n%2 == 0 {
			p = crossed(&d)
		}
		q := made(t, fence.Full, p)
		if !same(q, fenced(p, placesOf(p))) {
			t.Fatal(p, q)
		}
		plain, one := ends(t, space.SC, p)
		full, two := ends(t, space.TSO, q)
		if !one || !two {
			continue
		}
		said++
		if plain != full {
			t.Fatal(p, plain, full)
		}
		if waiting, is := ends(t, space.TSO, p); is && waiting != plain {
			seen++
		}
		stuck += strings.Count(plain, "2 [")
		fell += strings.Count(plain, "1 []")
	}
	if said < 200 || seen < 40 || stuck < 30 || fell < 30 {
		t.Error("few of a kind:", said, seen, stuck, fell)
	}
}

// F1, F3: of many programs Drop is what the second writing says; what comes of it is what comes of them, and nothing is left to be taken away.
func TestDropAgainstOracle(t *testing.T) {
	d := dice(2)
	said, shorter, kept, seen := 0, 0, 0, 0
	for n := range 500 {
		p := anyProgram(&d, 2, 9, api.OpFence, api.OpFence, api.OpFence, api.OpStore, api.OpUnlock, api.OpLock, api.OpCas, api.OpZero, api.OpJump, api.OpPrint)
		if n%3 == 0 {
			p = withFences(&d, crossed(&d))
		}
		q := made(t, fence.Drop, p)
		if !same(q, dropped(p)) || !same(made(t, fence.Drop, q), q) {
			t.Fatal(p, q)
		}
		before, one := ends(t, space.TSO, p)
		after, two := ends(t, space.TSO, q)
		if !one || !two {
			continue
		}
		said++
		if before != after {
			t.Fatal(p, q, before, after)
		}
		for i := range p.Code {
			shorter += len(p.Code[i]) - len(q.Code[i])
			for _, order := range q.Code[i] {
				if order.Op == api.OpFence {
					kept++
				}
			}
		}
		if plain, is := ends(t, space.SC, p); is && plain != before {
			seen++
		}
	}
	if said < 250 || shorter < 250 || kept < 60 || seen < 15 {
		t.Error("few of a kind:", said, shorter, kept, seen)
	}
}

// withFences is the program with a fence here and there.
func withFences(d *dice, p api.Program) api.Program {
	for i, code := range p.Code {
		for at := range slices.Backward(code) {
			if d.below(4) == 0 {
				p.Code[i] = put(p.Code[i], at)
			}
		}
	}
	return p
}

// F3: of long threads, too, with many ways.
func TestDropOfLongThreads(t *testing.T) {
	d := dice(3)
	for range 40 {
		p := api.Program{Words: []int{0, 0}, Locks: 2, Regs: 2}
		for range 4 {
			var code []api.Instr
			for range api.MaxCode {
				code = append(code, anyOrder(&d, api.MaxCode, api.OpFence, api.OpFence, api.OpZero, api.OpPrint))
			}
			p.Code = append(p.Code, code)
		}
		if q := made(t, fence.Drop, p); !same(q, dropped(p)) {
			t.Fatal(p, q)
		}
	}
}

// fewestOf tells the places of a program that Fewest does not refuse, as a text: thread:order.
func fewestOf(t *testing.T, p api.Program) string {
	t.Helper()
	list, f := fence.Fewest(p)
	if f != (api.Fault{}) {
		t.Fatalf("%v: %v", p, f)
	}
	return placed(list)
}

func placed(list [][2]int) string {
	var texts []string
	for _, at := range list {
		texts = append(texts, fmt.Sprintf("%d:%d", at[0], at[1]))
	}
	return strings.Join(texts, " ")
}

// sides are two threads that store into a word of their own, and look at the other one's; more stands between.
func sides(more0, more1 string) []string {
	return []string{"const 0 1; store 0 0; " + more0 + "load 1 1; print 1", "const 0 1; store 1 0; " + more1 + "load 1 0; print 1"}
}

// F4: the fewest places, of as many the first list.
func TestFewest(t *testing.T) {
	for _, x := range []struct {
		what    string
		threads []string
		want    string
	}{
		{"nothing", []string{""}, ""},
		{"stores that nobody sees", []string{"store 0 0; store 1 0; storeat 0 0; lock 0; unlock 0"}, ""},
		{"store buffering", sides("", ""), "0:1 1:1"},
		{"its first has a fence", sides("fence; ", ""), "1:1"},
		{"its second has a fence", sides("", "fence; "), "0:1"},
		{"both have one", sides("fence; ", "fence; "), ""},
		{"by cas and lock", sides("cas 3 2 2; ", "lock 0; "), ""},
		{"a message", []string{"const 0 1; store 0 0; store 1 0", "load 0 1; load 1 0; print 0; print 1"}, ""},
		{"any of several stores", sides("store 2 0; store 3 0; ", ""), "0:1 1:1"},
		{"the last of several stores", []string{"const 0 1; store 2 0; store 3 0; store 0 0; load 1 1; print 1", sides("", "")[1]}, "0:3 1:1"},
		{"in the second, any", sides("", "store 2 0; store 3 0; "), "0:1 1:1"},
		{"threads ahead of it", append([]string{"", "store 3 0"}, sides("", "")...), "2:1 3:1"},
		{"storeat", []string{"const 1 1; storeat 0 1; load 1 1; print 1", "const 0 1; storeat 0 0; load 1 0; print 1"}, "0:1 1:1"},
		{"store and storeat", []string{"const 1 1; storeat 0 1; load 1 1; print 1", sides("", "")[1]}, "0:1 1:1"},
		{"under unlike locks: store, ahead of unlock", []string{"const 0 1; lock 0; store 0 0; unlock 0; load 1 1; print 1", "const 0 1; lock 1; store 1 0; unlock 1; load 1 0; print 1"}, "0:2 1:2"},
		{"an unlock that stands ahead of the store", []string{"jump 3; unlock 0; jump 7; lock 0; const 0 1; store 0 0; jump 1; load 1 1; print 1", sides("", "")[1]}, "0:1 1:1"},
		{"under a lock", []string{"lock 0; " + "const 0 1; store 0 0; load 1 1; unlock 0; print 1", "lock 0; " + "const 0 1; store 1 0; load 1 0; unlock 0; print 1"}, ""},
		{"two ways to the load", []string{"const 0 1; load 2 2; zero 2 5; store 0 0; jump 6; store 0 0; load 1 1; print 1", sides("", "")[1], "const 0 1; store 2 0"}, "0:3 0:5 1:1"},
		{"what is done never", []string{"const 0 1; jump 3; store 1 0; store 0 0; load 1 1; print 1", sides("", "")[1]}, "0:3 1:1"},
		{"six", sides("store 2 0; store 3 0; ", "store 2 0; store 3 0; "), "0:1 1:1"},
		{"how it ends", []string{"lock 0; const 0 1; store 0 0; load 1 1; zero 1 6; unlock 0", "const 0 1; store 1 0; load 1 0; zero 1 5; jump 6; lock 0"}, "0:2 1:1"},
	} {
		p := program(t, "words 0 0 0 0; locks 2; regs 3", x.threads...)
		if got := fewestOf(t, p); got != x.want {
			t.Errorf("%s: %q, want %q", x.what, got, x.want)
		}
	}
}

// F4: of many programs it is what the second writing says, and of those that Full makes it is nothing.
func TestFewestAgainstOracle(t *testing.T) {
	d := dice(4)
	counts := map[string]int{}
	for n := range 180 {
		p := crossed(&d)
		if n%4 == 0 {
			p = anyProgram(&d, 3, 6, api.OpStore, api.OpStoreAt, api.OpUnlock, api.OpLock, api.OpLoad, api.OpPrint)
		}
		list, f := fence.Fewest(p)
		want, e := fewest(p)
		if f != (api.Fault{Code: e}) || !slices.Equal(list, want) {
			t.Fatal(p, list, f, want, e)
		}
		counts[fmt.Sprint(e, len(list))]++
		full := made(t, fence.Full, p)
		if list, f := fence.Fewest(full); f.Code == api.OK && len(list) > 0 {
			t.Fatal(full, list)
		}
	}
	for _, kind := range []string{"0 0", "0 1", "0 2", "0 3", "10 0"} {
		if counts[kind] < 3 {
			t.Error("few of a kind:", kind, counts)
		}
	}
}

// F4: six orders are not too many, seven are, wherever they stand, also where no fence is needed, or there are too many states.
func TestFewestSizes(t *testing.T) {
	head := "words 0 0; locks 1; regs 1"
	size := api.Fault{Code: api.ErrSize}
	for _, threads := range [][]string{
		{"store 0 0; store 0 0; store 0 0; store 0 0; store 0 0; store 0 0"},
		{"storeat 0 0; storeat 0 0; storeat 0 0; storeat 0 0; storeat 0 0; storeat 0 0"},
		{"jump 6; unlock 0; unlock 0; unlock 0; unlock 0; unlock 0; unlock 0"},
		{"store 0 0; unlock 0", "storeat 0 0; store 0 0", "", "unlock 0; storeat 0 0"},
		{"store 0 0; store 0 0; store 0 0; fence; cas 0 0 0; load 0 0; loadat 0 0; lock 0; print 0", "store 0 0; unlock 0; storeat 0 0"},
	} {
		if list, f := fence.Fewest(program(t, head, threads...)); f.Code == api.ErrSize || len(list) > 0 {
			t.Error(threads, list, f)
		}
		for _, more := range []string{"store 1 0", "storeat 0 0", "unlock 0"} {
			for i := range threads {
				seven := slices.Clone(threads)
				seven[i] = strings.Trim(seven[i]+"; "+more, "; ")
				if list, f := fence.Fewest(program(t, head, seven...)); f != size || len(list) > 0 {
					t.Error(seven, list, f)
				}
			}
		}
	}
	forever := "print 0; jump 0; store 0 0; store 0 0; store 0 0; store 0 0; store 0 0; store 0 0"
	if list, f := fence.Fewest(program(t, head, forever)); f != (api.Fault{Code: api.ErrFull}) || len(list) > 0 {
		t.Error(list, f)
	}
	if list, f := fence.Fewest(program(t, head, forever, "unlock 0")); f != size || len(list) > 0 {
		t.Error(list, f)
	}
}

// counts is a thread that comes to so many states by itself, that touches no word.
func counts(states int) string {
	return strings.TrimSuffix(strings.Repeat("fence; ", states-1), "; ")
}

// F4: ErrFull, where SC, TSO of the program say so, or TSO of a program that is looked at; not where one is found ahead of that.
func TestFewestFull(t *testing.T) {
	head := "words 0 0 0 0; locks 0; regs 2"
	want := func(what string, p api.Program, full bool) {
		t.Helper()
		list, f := fence.Fewest(p)
		if full != (f == api.Fault{Code: api.ErrFull}) || !full && f != (api.Fault{}) || full && len(list) > 0 {
			t.Error(what, list, f)
		}
	}
	tooMany := func(of func(api.Program) ([]api.Outcome, api.Fault), p api.Program) bool {
		_, is := ends(t, of, p)
		return !is
	}
	p := program(t, head, "print 0; jump 0")
	want("SC", p, true)
	p = program(t, head, "store 0 0; store 0 0; store 0 0; store 0 0; store 0 0; store 0 0", counts(300))
	if tooMany(space.SC, p) || !tooMany(space.TSO, p) {
		t.Fatal("no such program")
	}
	want("TSO", p, true)
	// A fence behind the last store of a thread makes states more, all others less.
	threads := append([]string{"store 2 0"}, sides("", "")...)
	most := 0
	for n := 1; !tooMany(space.TSO, program(t, head, append(threads, counts(n))...)); n++ {
		most = n
	}
	p = program(t, head, append(threads, counts(most))...)
	if tooMany(space.SC, p) || tooMany(space.TSO, p) || !tooMany(space.TSO, fenced(p, [][2]int{{0, 0}})) || tooMany(space.TSO, fenced(p, [][2]int{{1, 1}, {2, 1}})) {
		t.Fatal("no such program")
	}
	want("one that is looked at", p, true)
	want("the program itself", program(t, head, append(threads, counts(most+1))...), true)
	// Here the same fence is looked at only behind one that is enough, and not at all.
	last := []string{sides("", "")[0], sides("", "fence; ")[1], "store 2 0"}
	most = 0
	for n := 1; !tooMany(space.TSO, program(t, head, append(last, counts(n))...)); n++ {
		most = n
	}
	p = program(t, head, append(last, counts(most))...)
	if !tooMany(space.TSO, fenced(p, [][2]int{{2, 0}})) {
		t.Fatal("no such program")
	}
	want("one that is not looked at", p, false)
	if got := fewestOf(t, p); got != "0:1" {
		t.Error(got)
	}
}

// long is the thread with so many orders behind its end, that are done never, that it has MaxCode of them.
func long(code []api.Instr) []api.Instr {
	code = append(slices.Clone(code), api.Instr{Op: api.OpJump, A: api.MaxCode})
	for len(code) < api.MaxCode {
		code = append(code, api.Instr{Op: api.OpFence})
	}
	return code
}

// behind is the thread, which has no jumps, behind so many orders that are done never, that it has MaxCode of them.
func behind(code []api.Instr) []api.Instr {
	rest := slices.Repeat([]api.Instr{{Op: api.OpFence}}, api.MaxCode-len(code))
	rest[0] = api.Instr{Op: api.OpJump, A: len(rest)}
	return append(rest, code...)
}

// lengthened is the program with those threads long of which the mask's bits say so.
func lengthened(p api.Program, mask int) api.Program {
	p.Code = slices.Clone(p.Code)
	for i, code := range p.Code {
		if mask>>i&1 == 1 {
			p.Code[i] = long(code)
		}
	}
	return p
}

// F4: a program that is only looked at may have more than MaxCode orders; F1: Full's may not.
func TestFewestWithoutRoom(t *testing.T) {
	for _, x := range []struct {
		what    string
		threads []string
		want    string
	}{
		{"one behind each", sides("", ""), "0:1 1:1"},
		{"in the first", sides("", "fence; "), "0:1"},
		{"in the second", sides("fence; ", ""), "1:1"},
		{"none", sides("fence; ", "fence; "), ""},
		{"two ways", []string{"const 0 1; load 2 2; zero 2 5; store 0 0; jump 6; store 0 0; load 1 1; print 1", sides("", "")[1], "const 0 1; store 2 0"}, "0:3 0:5 1:1"},
		{"an unlock", []string{"jump 3; unlock 0; jump 7; lock 0; const 0 1; store 0 0; jump 1; load 1 1; print 1", sides("", "")[1]}, "0:1 1:1"},
		{"six", sides("store 2 0; store 3 0; ", "store 2 0; store 3 0; "), "0:1 1:1"},
	} {
		p := program(t, "words 0 0 0 0; locks 1; regs 3", x.threads...)
		for mask := range 1 << len(p.Code) {
			q := lengthened(p, mask)
			if got := fewestOf(t, q); got != x.want {
				t.Errorf("%s, %b: %q, want %q", x.what, mask, got, x.want)
			}
			for i := range q.Code {
				if mask>>i&1 == 1 {
					refused(t, x.what, fence.Full, q, api.Fault{Code: api.ErrSize, Thread: i})
					break
				}
			}
		}
	}
	// Orders that are done stand at the end, too.
	p := program(t, "words 0 0; locks 0; regs 2", sides("", "")...)
	for i, code := range p.Code {
		p.Code[i] = behind(code)
	}
	if got := fewestOf(t, p); got != "0:397 1:397" {
		t.Error(got)
	}
}

// F4: of generated programs, too, how long threads are makes no difference, as far as there are not too many states.
func TestFewestOfLongThreads(t *testing.T) {
	d := dice(5)
	found, full := 0, 0
	for range 60 {
		p := crossed(&d)
		want, f := fence.Fewest(p)
		if f.Code != api.OK {
			continue
		}
		// The jump behind the end has states of its own.
		list, f := fence.Fewest(lengthened(p, 1+d.below(1<<len(p.Code)-1)))
		if f == (api.Fault{Code: api.ErrFull}) {
			full++
			continue
		}
		if f != (api.Fault{}) || !slices.Equal(list, want) {
			t.Fatal(p, list, f, want)
		}
		if len(want) > 0 {
			found++
		}
	}
	if found < 10 || full > 10 {
		t.Error("few of a kind:", found, full)
	}
	// What is looked at and has too many states is refused for that, however long its threads are.
	p := program(t, "words 0 0 0 0; locks 0; regs 2", append([]string{"store 2 0"}, sides("", "")...)...)
	p.Code = append(p.Code, nil)
	p.Code[0] = behind(p.Code[0])
	for {
		if _, is := ends(t, space.TSO, p); !is {
			break
		}
		p.Code[3] = append(p.Code[3], api.Instr{Op: api.OpFence})
	}
	p.Code[3] = p.Code[3][1:]
	if _, is := ends(t, space.TSO, p); !is {
		t.Fatal("no such program")
	}
	if list, f := fence.Fewest(p); f != (api.Fault{Code: api.ErrFull}) || len(list) > 0 {
		t.Error(list, f)
	}
}

// P2: Check's fault comes first, and all else is zero then.
func TestRefuses(t *testing.T) {
	store := []api.Instr{{Op: api.OpStore}}
	many := slices.Repeat(store, api.MaxCode)
	forever := []api.Instr{{Op: api.OpPrint}, {Op: api.OpJump}}
	word := []int{0}
	for _, p := range []api.Program{
		{},
		{Regs: 1},
		{Code: [][]api.Instr{many, store, store, store, store}, Words: word, Regs: 1},
		{Code: [][]api.Instr{many}, Words: make([]int, api.MaxWords+1), Regs: 1},
		{Code: [][]api.Instr{many}, Words: word},
		{Code: [][]api.Instr{many}, Words: word, Regs: -1},
		{Code: [][]api.Instr{many}, Words: word, Regs: api.MaxRegs + 1},
		{Code: [][]api.Instr{many}, Words: word, Regs: math.MaxInt},
		{Code: [][]api.Instr{many}, Words: word, Locks: -1, Regs: 1},
		{Code: [][]api.Instr{many}, Words: word, Locks: math.MinInt, Regs: 1},
		{Code: [][]api.Instr{many}, Words: word, Locks: api.MaxLocks + 1, Regs: 1},
		{Code: [][]api.Instr{store}, Regs: 1},
		{Code: [][]api.Instr{many, append(slices.Clone(many), api.Instr{})}, Words: word, Regs: 1},
		{Code: [][]api.Instr{many, {{Op: 0}}}, Words: word, Regs: 1},
		{Code: [][]api.Instr{many, {{Op: api.OpFence}, {Op: 19}}}, Words: word, Regs: 1},
		{Code: [][]api.Instr{many, {{Op: api.OpFence, A: 1}}}, Words: word, Regs: 1},
		{Code: [][]api.Instr{forever, {{Op: api.OpJump, A: 2}}}, Words: word, Regs: 1},
		{Code: [][]api.Instr{forever, {{Op: api.OpJump, A: -1}}}, Words: word, Regs: 1},
		{Code: [][]api.Instr{forever, {{Op: api.OpZero, B: math.MaxInt}}}, Words: word, Regs: 1},
		{Code: [][]api.Instr{forever, {{Op: api.OpUnlock}}}, Words: word, Regs: 1},
	} {
		wrong := asm.Check(p)
		if wrong.Code == api.OK {
			t.Fatal("may be:", p)
		}
		refused(t, "Full", fence.Full, p, wrong)
		refused(t, "Drop", fence.Drop, p, wrong)
		if list, f := fence.Fewest(p); f != wrong || len(list) > 0 {
			t.Error(list, f, wrong)
		}
	}
}

// given is a program with something behind the length of each of its lists.
func given(t *testing.T) api.Program {
	t.Helper()
	p := program(t, "words 0 0 5; locks 1; regs 2", append(sides("zero 0 3; ", "fence; jump 4; "), "fence; print 0; fence", "")...)
	p.Words = append(p.Words, 7, 8)[:3]
	for i := range p.Code {
		n := len(p.Code[i])
		p.Code[i] = append(p.Code[i], api.Instr{Op: 99}, api.Instr{Op: api.OpStore})[:n]
	}
	p.Code = append(p.Code, []api.Instr{{Op: 99}})[:4]
	return p
}

// whole is all that lies in a program's lists, what is behind their lengths as well.
func whole(p api.Program) string {
	text := fmt.Sprint(p.Words[:cap(p.Words)], p.Locks, p.Regs)
	for _, code := range p.Code[:cap(p.Code)] {
		text += fmt.Sprint(code[:cap(code)], len(code))
	}
	return text
}

// P3: nothing that is given is changed or kept, nothing behind a list's length is read or touched, and each list that is answered is of its own.
func TestNothingShared(t *testing.T) {
	for i, of := range []func(api.Program) (api.Program, api.Fault){fence.Full, fence.Drop} {
		p := given(t)
		before := whole(p)
		q, again := made(t, of, p), made(t, of, p)
		if !same(q, again) || same(q, p) || whole(p) != before {
			t.Fatal(i, q, again, p)
		}
		for thread, code := range q.Code {
			for other := thread; other < len(q.Code); other++ {
				if !slices.Equal(q.Code[other], again.Code[other]) {
					t.Error(i, "shared:", thread, other)
				}
			}
			for j := range code[:cap(code)] {
				code[:cap(code)][j] = api.Instr{Op: 77}
			}
		}
		for j := range q.Words[:cap(q.Words)] {
			q.Words[:cap(q.Words)][j] = 77
		}
		for j := range q.Code[:cap(q.Code)] {
			q.Code[:cap(q.Code)][j] = nil
		}
		if whole(p) != before || !same(made(t, of, p), again) {
			t.Error(i, "changed or kept:", p)
		}
	}
	p := given(t)
	before := whole(p)
	list, f := fence.Fewest(p)
	if f != (api.Fault{}) || placed(list) != "0:1" || whole(p) != before {
		t.Fatal(list, f, p)
	}
	for i := range list[:cap(list)] {
		list[:cap(list)][i] = [2]int{9, 9}
	}
	if got := fewestOf(t, p); got != "0:1" || whole(p) != before {
		t.Error(got, p)
	}
}

// What is answered has the words, locks and registers of the program.
func TestRestStays(t *testing.T) {
	words := strings.Repeat(" "+strconv.Itoa(math.MinInt), api.MaxWords)
	p := program(t, "words"+words+"; locks 4; regs 200", "const 199 "+strconv.Itoa(math.MaxInt)+"; fence; unlock 3; store 63 199", "")
	for i, of := range []func(api.Program) (api.Program, api.Fault){fence.Full, fence.Drop} {
		q := made(t, of, p)
		if !slices.Equal(q.Words, p.Words) || q.Locks != 4 || q.Regs != 200 || len(q.Code) != 2 || len(q.Code[1]) != 0 || len(q.Code[0]) != 6-3*i {
			t.Error(i, q)
		}
	}
}
