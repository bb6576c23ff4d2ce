package spin_test

import (
	"fmt"
	"math"
	"reflect"
	"slices"
	"strings"
	"testing"

	"sluice/api"
	"sluice/asm"
	"sluice/sc"
	"sluice/space"
	"sluice/spin"
	"sluice/tso"
)

// program is that of a text; orders of a thread are parted by "; ".
func program(t *testing.T, head string, threads ...string) api.Program {
	t.Helper()
	text := strings.ReplaceAll(head, "; ", "\n") + "\n"
	for _, orders := range threads {
		text += "thread\n"
		if orders = strings.Trim(orders, "; "); orders != "" {
			text += strings.ReplaceAll(orders, "; ", "\n") + "\n"
		}
	}
	p, f := asm.Parse(text)
	if f.Code != api.OK {
		t.Fatalf("%q: %v", text, f)
	}
	return p
}

// same tells whether programs are; an empty list may be nil or not.
func same(a, b api.Program) bool {
	return slices.Equal(a.Words, b.Words) && a.Locks == b.Locks && a.Regs == b.Regs && slices.EqualFunc(a.Code, b.Code, slices.Equal)
}

// link tells what becomes of a program that is not refused.
func link(t *testing.T, p api.Program) api.Program {
	t.Helper()
	q, f := spin.Link(p)
	if f != (api.Fault{}) {
		t.Fatalf("%v: %v", p, f)
	}
	if f := asm.Check(q); f.Code != api.OK {
		t.Fatalf("%v became %v: %v", p, q, f)
	}
	return q
}

// refused holds what is answered of a program that is refused.
func refused(t *testing.T, what any, p api.Program, want api.Fault) {
	t.Helper()
	q, f := spin.Link(p)
	if f != want || !reflect.DeepEqual(q, api.Program{}) {
		t.Errorf("%v: %v %v, want %v", what, q, f, want)
	}
}

// scene is a program's orders, and what becomes of them.
type scene struct{ what, orders, want string }

func play(t *testing.T, list []scene) {
	t.Helper()
	head, linked := "words 7 -8 9; locks 2; regs 5", "words 7 -8 9 0 0; locks 0; regs 8"
	for _, x := range list {
		if got := link(t, program(t, head, x.orders)); !same(got, program(t, linked, x.want)) {
			t.Errorf("%s: %v", x.what, got)
		}
		// What other threads have makes no difference.
		got := link(t, program(t, head, "jump 2; print 0", x.orders, "", x.orders))
		if !same(got, program(t, linked, "jump 2; print 0", x.want, "", x.want)) {
			t.Errorf("%s, among threads: %v", x.what, got)
		}
	}
}

// G1: each OpLock becomes four orders, each OpUnlock two, all others stay as they are.
func TestLink(t *testing.T) {
	others := "const 3 3; move 4 1; add 4 3 2; sub 4 3 2; mul 4 3 2; less 4 3 2; same 4 3 2; load 4 2; store 2 4; loadat 4 3; storeat 3 4; fence; cas 2 3 4; print 4"
	play(t, []scene{
		{"nothing", "", ""},
		{"the first lock", "lock 0", "const 6 0; const 7 1; cas 3 6 7; zero 6 0"},
		{"the second lock", "lock 1", "const 6 0; const 7 1; cas 4 6 7; zero 6 0"},
		{"the first unlock", "unlock 0", "const 6 0; store 3 6"},
		{"the second unlock", "unlock 1", "const 6 0; store 4 6"},
		{"no other one", others, others},
		{"ahead of others", "unlock 1; " + others, "const 6 0; store 4 6; " + others},
		{"behind others", others + "; lock 0", others + "; const 6 0; const 7 1; cas 3 6 7; zero 6 14"},
		{"each tries itself again", "lock 0; lock 1; print 0; lock 0", "const 6 0; const 7 1; cas 3 6 7; zero 6 0; const 6 0; const 7 1; cas 4 6 7; zero 6 4; print 0; const 6 0; const 7 1; cas 3 6 7; zero 6 9"},
		{"each", "lock 1; unlock 1; unlock 0; lock 0", "const 6 0; const 7 1; cas 4 6 7; zero 6 0; const 6 0; store 4 6; const 6 0; store 3 6; const 6 0; const 7 1; cas 3 6 7; zero 6 8"},
		{"where no way comes", "jump 2; unlock 0", "jump 3; const 6 0; store 3 6"},
	})
}

// G1: numbers c tell the first of what an order became; the one behind the last stays so.
func TestLinkLeadsJumps(t *testing.T) {
	lock := func(at int) string { return fmt.Sprintf("const 6 0; const 7 1; cas 3 6 7; zero 6 %d; ", at) }
	unlock := "const 6 0; store 3 6; "
	play(t, []scene{
		{"to a lock", "jump 1; lock 0; print 0", "jump 1; " + lock(1) + "print 0"},
		{"to what is behind a lock", "jump 2; lock 0; print 0", "jump 5; " + lock(1) + "print 0"},
		{"to an unlock", "jump 1; unlock 0; print 0", "jump 1; " + unlock + "print 0"},
		{"to what is behind an unlock", "jump 2; unlock 0; print 0", "jump 3; " + unlock + "print 0"},
		{"behind the last, a lock", "jump 2; lock 0", "jump 5; " + lock(1)},
		{"behind the last, an unlock", "jump 2; unlock 0", "jump 3; " + unlock},
		{"behind the last, another", "lock 0; jump 3; print 0", lock(0) + "jump 6; print 0"},
		{"to a lock behind an unlock", "unlock 0; lock 0; zero 2 1", unlock + lock(2) + "zero 2 2"},
		{"back", "lock 0; print 0; unlock 0; jump 1", lock(0) + "print 0; " + unlock + "jump 4"},
		{"to the first", "lock 0; unlock 0; jump 0", lock(0) + unlock + "jump 0"},
		{"to itself", "lock 0; jump 1", lock(0) + "jump 4"},
		{"zero ahead", "zero 3 4; lock 0; unlock 0; print 0; print 1", "zero 3 8; " + lock(1) + unlock + "print 0; print 1"},
		{"zero's register", "unlock 0; zero 1 1; zero 2 2", unlock + "zero 1 2; zero 2 3"},
		{"numbers that look like places", "lock 0; const 1 1; const 2 2; store 2 1; unlock 0; const 3 4; cas 2 1 3; print 2", lock(0) + "const 1 1; const 2 2; store 2 1; " + unlock + "const 3 4; cas 2 1 3; print 2"},
		{"by all", "zero 0 0; zero 0 1; lock 0; zero 0 2; zero 0 3; unlock 0; zero 0 4; zero 0 5; zero 0 6; zero 0 9", "zero 0 0; zero 0 1; " + lock(2) + "zero 0 2; zero 0 6; " + unlock + "zero 0 7; zero 0 8; zero 0 10; zero 0 13"},
	})
}

// G1: behind the words there is one of each lock, also of those that nobody takes; registers are always RealRegs.
func TestLinkWords(t *testing.T) {
	for _, words := range [][]int{nil, {}, {5}, {1, -2, math.MaxInt64, math.MinInt64}} {
		for locks := range 5 {
			for regs := 1; regs <= 6; regs++ {
				q := link(t, api.Program{Code: [][]api.Instr{{{Op: api.OpPrint, A: regs - 1}}}, Words: words, Locks: locks, Regs: regs})
				want := api.Program{Code: [][]api.Instr{{{Op: api.OpPrint, A: regs - 1}}}, Words: slices.Concat(words, make([]int, locks)), Regs: api.RealRegs}
				if !same(q, want) {
					t.Error(words, locks, regs, q)
				}
			}
		}
	}
	// The words of locks are those behind its own, by the lock's number.
	q := link(t, program(t, "words 1 2; locks 4; regs 1", "unlock 3; unlock 0; unlock 2; unlock 1"))
	want := program(t, "words 1 2 0 0 0 0; locks 0; regs 8", "const 6 0; store 5 6; const 6 0; store 2 6; const 6 0; store 4 6; const 6 0; store 3 6")
	if !same(q, want) {
		t.Error(q)
	}
	q = link(t, program(t, "words; locks 1; regs 6", "unlock 0"))
	if !same(q, program(t, "words 0; locks 0; regs 8", "const 6 0; store 0 6")) {
		t.Error(q)
	}
}

// G1: FreeRegs registers are not too many, one more is; words and locks may be MaxWords together.
func TestLinkLimits(t *testing.T) {
	of := func(words, locks, regs int) api.Program {
		return api.Program{Code: [][]api.Instr{{{Op: api.OpPrint}}}, Words: slices.Repeat([]int{3}, words), Locks: locks, Regs: regs}
	}
	for _, x := range [][3]int{{0, 0, 6}, {64, 0, 6}, {63, 1, 6}, {62, 2, 1}, {61, 3, 1}, {60, 4, 6}} {
		if q := link(t, of(x[0], x[1], x[2])); !same(q, linked(of(x[0], x[1], x[2]))) {
			t.Error(x, q)
		}
	}
	tooMany := api.Fault{Code: api.ErrRange}
	tooBig := api.Fault{Code: api.ErrSize}
	for _, regs := range []int{7, 8, 9, 199, 200} {
		refused(t, regs, of(1, 1, regs), tooMany)
		refused(t, "registers come ahead of words", of(64, 4, regs), tooMany)
	}
	for _, x := range [][2]int{{64, 1}, {63, 2}, {62, 3}, {61, 4}, {64, 4}} {
		refused(t, x, of(x[0], x[1], 6), tooBig)
	}
	// Who uses none of the locks, or of the registers, has them nevertheless.
	refused(t, "no orders", api.Program{Code: [][]api.Instr{nil}, Regs: 7}, tooMany)
	refused(t, "no orders", api.Program{Code: [][]api.Instr{nil}, Words: make([]int, 64), Locks: 1, Regs: 1}, tooBig)
}

// mixed is a thread's orders: so many of OpLock, of OpUnlock, of others.
func mixed(locks, unlocks, others int) []api.Instr {
	return slices.Concat(
		slices.Repeat([]api.Instr{{Op: api.OpPrint}}, others),
		slices.Repeat([]api.Instr{{Op: api.OpUnlock}}, unlocks),
		slices.Repeat([]api.Instr{{Op: api.OpLock}}, locks))
}

// G1: MaxCode orders are not too many, one more is: of the first such thread, at 0.
func TestLinkSizes(t *testing.T) {
	of := func(code ...[]api.Instr) api.Program {
		return api.Program{Code: code, Locks: 1, Regs: 1}
	}
	for _, x := range [][3]int{{0, 0, 400}, {100, 0, 0}, {0, 200, 0}, {99, 2, 0}, {99, 1, 2}, {50, 50, 100}, {0, 199, 2}, {99, 0, 4}} {
		if q := link(t, of(mixed(x[0], x[1], x[2]))); len(q.Code[0]) != api.MaxCode {
			t.Error(x, len(q.Code[0]))
		}
	}
	for _, x := range [][3]int{{100, 0, 1}, {101, 0, 0}, {0, 200, 1}, {0, 201, 0}, {99, 2, 1}, {99, 1, 3}, {100, 1, 0}, {50, 50, 101}, {1, 0, 399}, {0, 1, 399}, {1, 0, 397}, {400, 0, 0}, {0, 400, 0}} {
		for thread := range 4 {
			code := [][]api.Instr{mixed(100, 0, 0), mixed(0, 200, 0), nil, mixed(0, 0, 400)}
			code[thread] = mixed(x[0], x[1], x[2])
			refused(t, x, of(code...), api.Fault{Code: api.ErrSize, Thread: thread})
		}
	}
	long := mixed(400, 0, 0)
	refused(t, "the first of two", of(nil, mixed(0, 201, 0), long, nil), api.Fault{Code: api.ErrSize, Thread: 1})
	refused(t, "registers come ahead of it", api.Program{Code: [][]api.Instr{nil, long}, Locks: 1, Regs: 7}, api.Fault{Code: api.ErrRange})
	refused(t, "words come ahead of it", api.Program{Code: [][]api.Instr{nil, long}, Words: make([]int, 64), Locks: 1, Regs: 1}, api.Fault{Code: api.ErrSize})
}

// G1: Check's fault comes ahead of all others.
func TestLinkRefuses(t *testing.T) {
	long := mixed(400, 0, 0)
	of := func(code ...[]api.Instr) api.Program {
		return api.Program{Code: code, Words: make([]int, 64), Locks: 4, Regs: 7}
	}
	for _, x := range []struct {
		what string
		p    api.Program
		want api.Fault
	}{
		{"nothing", api.Program{}, api.Fault{Code: api.ErrSize}},
		{"no threads", of(), api.Fault{Code: api.ErrSize}},
		{"five threads", of(long, nil, nil, nil, nil), api.Fault{Code: api.ErrSize}},
		{"words", api.Program{Code: [][]api.Instr{nil}, Words: make([]int, 65), Regs: 7}, api.Fault{Code: api.ErrSize}},
		{"locks", api.Program{Code: [][]api.Instr{long}, Words: make([]int, 64), Locks: 5, Regs: 1}, api.Fault{Code: api.ErrRange}},
		{"locks below 0", api.Program{Code: [][]api.Instr{nil}, Words: make([]int, 64), Locks: -1, Regs: 1}, api.Fault{Code: api.ErrRange}},
		{"many locks", api.Program{Code: [][]api.Instr{nil}, Words: make([]int, 64), Locks: math.MaxInt, Regs: 1}, api.Fault{Code: api.ErrRange}},
		{"no registers", api.Program{Code: [][]api.Instr{nil}}, api.Fault{Code: api.ErrRange}},
		{"registers below 0", api.Program{Code: [][]api.Instr{nil}, Regs: math.MinInt}, api.Fault{Code: api.ErrRange}},
		{"many registers", api.Program{Code: [][]api.Instr{nil}, Regs: 201}, api.Fault{Code: api.ErrRange}},
		{"a thread's size", of(nil, long, slices.Concat(long, mixed(0, 0, 1))), api.Fault{Code: api.ErrSize, Thread: 2}},
		{"no such order", of(long, mixed(0, 0, 3), []api.Instr{{Op: api.OpFence}, {Op: 19}}), api.Fault{Code: api.ErrKind, Thread: 2, At: 1}},
		{"order 0", of(long, []api.Instr{{}}), api.Fault{Code: api.ErrKind, Thread: 1}},
		{"no such lock", of(long, []api.Instr{{Op: api.OpLock, A: 3}, {Op: api.OpLock, A: 4}}), api.Fault{Code: api.ErrRange, Thread: 1, At: 1}},
		{"no such lock to give", of([]api.Instr{{Op: api.OpUnlock, A: -1}}), api.Fault{Code: api.ErrRange}},
		{"lock with a second number", of(nil, nil, nil, []api.Instr{{Op: api.OpLock, B: 1}}), api.Fault{Code: api.ErrRange, Thread: 3}},
		{"no such word", api.Program{Code: [][]api.Instr{{{Op: api.OpLoad, B: 1}}}, Words: []int{0}, Locks: 1, Regs: 1}, api.Fault{Code: api.ErrRange}},
		{"no such register", api.Program{Code: [][]api.Instr{{{Op: api.OpPrint}, {Op: api.OpPrint, A: 6}}}, Locks: 1, Regs: 6}, api.Fault{Code: api.ErrRange, At: 1}},
		{"no such place", api.Program{Code: [][]api.Instr{{{Op: api.OpLock}, {Op: api.OpJump, A: 3}}}, Locks: 1, Regs: 6}, api.Fault{Code: api.ErrRange, At: 1}},
	} {
		refused(t, x.what, x.p, x.want)
	}
}

// G1: of many programs it is what the second writing says, of long threads too.
func TestLinkAgainstOracle(t *testing.T) {
	d := dice(1)
	long, refusals := 0, 0
	for n := range 1500 {
		p := anyProgram(&d, 4, 12, api.OpLock, api.OpUnlock, api.OpZero, api.OpJump, api.OpPrint)
		if n%5 == 0 {
			p = anyProgram(&d, 4, 400, api.OpPrint, api.OpZero, api.OpJump, api.OpAdd, api.OpLess, api.OpMove, api.OpUnlock)
		}
		want := linked(p)
		if at := slices.IndexFunc(want.Code, func(code []api.Instr) bool { return len(code) > 400 }); at >= 0 {
			refusals++
			refused(t, p, p, api.Fault{Code: api.ErrSize, Thread: at})
			continue
		}
		if slices.ContainsFunc(want.Code, func(code []api.Instr) bool { return len(code) > 200 }) {
			long++
		}
		if q := link(t, p); !same(q, want) {
			t.Fatal(p, q)
		}
	}
	if long < 50 || refusals < 50 {
		t.Error("few of a kind:", long, refusals)
	}
}

// ends tells outcomes by sc and by tso, and whether chapter 4 says anything of both.
func ends(t *testing.T, p api.Program) (plain, waiting []api.Outcome, said bool) {
	t.Helper()
	plain, one := space.SC(p)
	waiting, two := space.TSO(p)
	for _, f := range []api.Fault{one, two} {
		if f.Code != api.OK && f != (api.Fault{Code: api.ErrFull}) {
			t.Fatal(p, f)
		}
	}
	return plain, waiting, one.Code == api.OK && two.Code == api.OK
}

// G2: of known programs what comes, with locks and with words, by sc and by tso.
func TestLinkedLocksAreLocks(t *testing.T) {
	for _, x := range []struct {
		what           string
		threads        []string
		plain, waiting []string
	}{
		{"one adds, one doubles", []string{"lock 0; load 0 0; const 1 1; add 0 0 1; store 0 0; unlock 0", "lock 0; load 0 0; add 0 0 0; store 0 0; unlock 0"}, []string{"[1 0] []", "[2 0] []"}, nil},
		{"under a lock nobody sees what waits", []string{"lock 0; const 0 1; store 0 0; load 1 1; print 1; unlock 0", "lock 0; const 0 1; store 1 0; load 1 0; print 1; unlock 0"}, []string{"[1 1] [0 0 1 1]", "[1 1] [1 0 0 1]"}, nil},
		{"under unlike locks it is seen", []string{"lock 0; const 0 1; store 0 0; load 1 1; unlock 0; print 1", "const 0 1; store 1 0; load 1 0; print 1"},
			[]string{"[1 1] [0 0 1 1]", "[1 1] [0 1 1 0]", "[1 1] [0 1 1 1]", "[1 1] [1 0 0 1]", "[1 1] [1 1 0 0]", "[1 1] [1 1 0 1]"},
			[]string{"[1 1] [0 0 1 0]", "[1 1] [0 0 1 1]", "[1 1] [0 1 1 0]", "[1 1] [0 1 1 1]", "[1 1] [1 0 0 0]", "[1 1] [1 0 0 1]", "[1 1] [1 1 0 0]", "[1 1] [1 1 0 1]"}},
		{"crossed, those that get stuck are not told", []string{"lock 0; lock 1; print 0; unlock 1; unlock 0", "lock 1; lock 0; print 0; unlock 0; unlock 1"}, []string{"[0 0] [0 0 1 0]", "[0 0] [1 0 0 0]"}, nil},
		{"never given back", []string{"lock 0; print 0", "lock 0; print 0"}, nil, nil},
		{"never given back, but nobody waits for it", []string{"lock 0; lock 1; print 0", "print 0"}, []string{"[0 0] [0 0 1 0]", "[0 0] [1 0 0 0]"}, nil},
		{"taken twice", []string{"lock 0; lock 0"}, nil, nil},
		{"again and again", []string{"lock 0; unlock 0; lock 0; unlock 0; const 0 7; print 0"}, []string{"[0 0] [0 7]"}, nil},
		{"registers stay as they are", []string{"const 0 1; const 1 2; const 2 3; const 3 4; const 4 5; const 5 6; lock 1; unlock 1; print 0; print 1; print 2; print 3; print 4; print 5"}, []string{"[0 0] [0 1 0 2 0 3 0 4 0 5 0 6]"}, nil},
	} {
		p := program(t, "words 0 0; locks 2; regs 6", x.threads...)
		if x.waiting == nil {
			x.waiting = x.plain
		}
		for _, of := range []api.Program{p, link(t, p)} {
			plain, waiting, said := ends(t, of)
			if !said || !slices.Equal(done(plain, 2), x.plain) || !slices.Equal(done(waiting, 2), x.waiting) {
				t.Error(x.what, said, done(plain, 2), done(waiting, 2))
			}
		}
	}
}

// G2: of many programs that do not fall what is Done is the same.
func TestLinkedAgainstLocks(t *testing.T) {
	d := dice(2)
	counts := map[string]int{}
	for n := range 900 {
		p := guarded(&d)
		if n%3 == 0 {
			p = anyProgram(&d, 2, 5, api.OpLock, api.OpLock, api.OpUnlock, api.OpStore, api.OpLoad, api.OpPrint, api.OpZero)
		}
		plain, waiting, said := ends(t, p)
		if !said || has(waiting, api.Fell) {
			counts["not asked"]++
			continue
		}
		linkedPlain, linkedWaiting, said := ends(t, link(t, p))
		if !said {
			counts["not said"]++
			continue
		}
		counts["said"]++
		if !slices.Equal(done(plain, 2), done(linkedPlain, 2)) || !slices.Equal(done(waiting, 2), done(linkedWaiting, 2)) {
			t.Fatal(p, plain, linkedPlain, waiting, linkedWaiting)
		}
		if has(waiting, api.Stuck) {
			counts["stuck"]++
		}
		if len(done(plain, 2)) > 1 {
			counts["several"]++
		}
		if len(done(plain, 2)) < len(done(waiting, 2)) {
			counts["seen"]++
		}
	}
	for kind, least := range map[string]int{"said": 300, "stuck": 50, "several": 100, "seen": 10} {
		if counts[kind] < least {
			t.Error("few of a kind:", kind, counts)
		}
	}
}

// G2: runs by a script come to an end, too, where a thread that tries in vain is not always picked.
func TestLinkedRuns(t *testing.T) {
	p := program(t, "words 0; locks 1; regs 2", "lock 0; load 0 0; const 1 1; add 0 0 1; store 0 0; unlock 0", "lock 0; load 0 0; const 1 1; add 0 0 1; store 0 0; unlock 0")
	q := link(t, p)
	d := dice(3)
	for range 300 {
		var script []int
		for range 200 {
			script = append(script, d.below(12))
		}
		for name, run := range map[string]func(api.Program, []int) (api.Trace, api.Fault){"sc": sc.Run, "tso": tso.Run} {
			trace, f := run(q, script)
			if f.Code != api.OK || trace.Status != api.Done || !slices.Equal(trace.Words, []int{2, 0}) {
				t.Fatal(name, trace, f, script)
			}
		}
	}
}

// roomy is a copy of the list with something behind its length.
func roomy[T any](list []T, behind T) []T {
	return append(slices.Clone(list), behind, behind)[:len(list)]
}

// P3: nothing that is handed in is changed or kept, what is behind lengths is left alone, and no two lists share memory.
func TestNothingShared(t *testing.T) {
	plain := program(t, "words 4 5; locks 2; regs 2", "lock 0; store 0 1; unlock 0; zero 1 0", "print 0", "", "unlock 1; jump 2")
	p := plain
	p.Words = roomy(plain.Words, 77)
	p.Code = nil
	for _, code := range plain.Code {
		p.Code = append(p.Code, roomy(code, api.Instr{Op: 99}))
	}
	p.Code = roomy(p.Code, []api.Instr{{Op: 98}})
	q := link(t, p)
	if !same(q, linked(plain)) || !same(p, plain) {
		t.Error(q, p)
	}
	spoil(q)
	again := link(t, p)
	if !same(again, linked(plain)) || !same(p, plain) {
		t.Error(again, p)
	}
	if p.Words[:4][2] != 77 || p.Words[:4][3] != 77 || p.Code[0][:5][4].Op != 99 || p.Code[:5][4][0].Op != 98 {
		t.Error("changed behind a length")
	}
	// What is put behind one list of an answer is not seen in another one.
	for i, code := range again.Code {
		again.Code[i] = append(code, api.Instr{Op: 97})
	}
	for i, code := range again.Code {
		if !slices.Equal(code[:len(code)-1], linked(plain).Code[i]) {
			t.Error(i, code)
		}
	}
	// What is changed later in what was handed in is not seen in an answer.
	last := link(t, p)
	spoil(p)
	if !same(last, linked(plain)) {
		t.Error(last)
	}
}

// spoil changes all that the program's lists have.
func spoil(p api.Program) {
	for i := range p.Words {
		p.Words[i] = -1
	}
	for _, code := range p.Code {
		for i := range code {
			code[i] = api.Instr{Op: 96, A: 9, B: 9, C: 9}
		}
	}
	for i := range p.Code {
		p.Code[i] = nil
	}
}
