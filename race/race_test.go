package race_test

import (
	"fmt"
	"math"
	"reflect"
	"slices"
	"strconv"
	"strings"
	"testing"

	"sluice/api"
	"sluice/asm"
	"sluice/race"
	"sluice/space"
)

// program is that of a text; orders of a thread are parted by "; ".
func program(t *testing.T, head string, threads ...string) api.Program {
	t.Helper()
	text := strings.ReplaceAll(head, "; ", "\n") + "\n"
	for _, orders := range threads {
		text += "thread\n"
		if orders != "" {
			text += strings.ReplaceAll(strings.Trim(orders, "; "), "; ", "\n") + "\n"
		}
	}
	p, f := asm.Parse(text)
	if f.Code != api.OK {
		t.Fatalf("%q: %v", text, f)
	}
	return p
}

// find tells the clashes of a program of which there is something to be said.
func find(t *testing.T, p api.Program) []api.Clash {
	t.Helper()
	list, f := race.Find(p)
	if f != (api.Fault{}) {
		t.Fatalf("%v: %v", p, f)
	}
	return list
}

// told writes clashes as short texts: thread:order-thread:order@word.
func told(list []api.Clash) string {
	var texts []string
	for _, c := range list {
		texts = append(texts, fmt.Sprintf("%d:%d-%d:%d@%d", c.Thread, c.At, c.Other, c.Where, c.Word))
	}
	return strings.Join(texts, " ")
}

// scene is a program by its texts, and what is told of it.
type scene struct {
	what    string
	threads []string
	want    string
}

func play(t *testing.T, head string, list []scene) {
	t.Helper()
	for _, x := range list {
		if got := told(find(t, program(t, head, x.threads...))); got != x.want {
			t.Errorf("%s: %q, want %q", x.what, got, x.want)
		}
	}
}

// E1: of all pairs of orders those clash that touch the same word, one of which at least stores.
func TestPairs(t *testing.T) {
	// How an order touches the word 1, where all registers hold 1.
	orders := []struct{ text, kind string }{
		{"load 0 1", "load"}, {"loadat 0 1", "load"}, {"loadat 1 1", "load"},
		{"store 1 0", "store"}, {"storeat 0 1", "store"}, {"storeat 0 0", "store"},
		{"cas 1 0 1", "cas"}, {"cas 1 1 1", "cas"},
		{"load 1 0", ""}, {"load 0 2", ""}, {"store 0 1", ""}, {"store 2 1", ""}, {"cas 0 1 1", ""}, {"cas 2 1 1", ""},
		{"const 1 1", ""}, {"move 1 1", ""}, {"add 1 1 1", ""}, {"sub 1 1 1", ""}, {"mul 1 1 1", ""}, {"less 1 1 1", ""}, {"same 1 1 1", ""},
		{"fence", ""}, {"jump 1", ""}, {"zero 1 1", ""}, {"print 1", ""}, {"lock 1", ""}, {"unlock 1", ""},
	}
	ahead := "const 0 1; const 1 1; "
	for _, a := range orders {
		for _, b := range orders {
			if a.kind == "" && b.kind == "" {
				continue // They may touch another word both.
			}
			want := ""
			if a.kind != "" && b.kind != "" && (a.kind == "store" || b.kind == "store") {
				want = "0:2-1:2@1"
			}
			got := told(find(t, program(t, "words 0 0 0; locks 2; regs 2", ahead+a.text, ahead+b.text)))
			if got != want {
				t.Errorf("%s, %s: %q, want %q", a.text, b.text, got, want)
			}
		}
	}
}

// E1: the word is the one whose number a register holds there.
func TestWordOfRegister(t *testing.T) {
	last := strings.Repeat(" 0", api.MaxWords)
	play(t, "words"+last+"; locks 0; regs 2", []scene{
		{"first word", []string{"storeat 0 1", "load 0 0"}, "0:0-1:0@0"},
		{"last word", []string{"const 0 63; storeat 0 1", "load 0 63"}, "0:1-1:0@63"},
		{"by both", []string{"const 1 7; loadat 0 1", "const 0 7; storeat 0 1"}, "0:1-1:1@7"},
		{"each by its own register", []string{"const 0 7; const 1 8; loadat 0 1", "const 0 7; const 1 8; storeat 0 1"}, ""},
		{"as it was ahead", []string{"const 0 5; const 0 6; storeat 0 1", "load 0 5", "load 0 6"}, "0:2-2:0@6"},
		{"unlike words at one order", []string{"const 1 1; storeat 0 1; add 0 0 1; jump 1", "load 0 0; load 0 3; store 9 0; load 0 63"}, "0:1-1:0@0 0:1-1:1@3 0:1-1:2@9 0:1-1:3@63"},
		{"its number is stored there", []string{"const 0 4; storeat 0 0; store 4 1", "load 0 4; storeat 0 1"}, "0:1-1:0@4 0:2-1:0@4 0:2-1:1@4"},
	})
	for _, n := range []int{-1, 2, 3, 64, math.MaxInt, math.MinInt} {
		set := "const 0 " + strconv.Itoa(n) + "; move 1 0; "
		for _, x := range [][2]string{{"storeat 0 1", "storeat 0 1"}, {"storeat 0 1", "loadat 0 1"}, {"loadat 0 1", "storeat 0 1"}} {
			play(t, "words 0 0; locks 0; regs 2", []scene{{fmt.Sprint("no word ", n, x), []string{set + x[0], set + x[1]}, ""}})
		}
	}
	play(t, "words; locks 0; regs 2", []scene{{"no words at all", []string{"storeat 0 1", "storeat 0 1"}, ""}})
}

// E1: rising, number by number, each once: the thread with the lower number first.
func TestRising(t *testing.T) {
	store := strings.TrimSpace(strings.Repeat("store 0 0; ", 11))
	var all []string
	for a := range 11 {
		for b := range 11 {
			all = append(all, fmt.Sprintf("0:%d-1:%d@0", a, b))
		}
	}
	play(t, "words 0 0 0; locks 0; regs 2", []scene{
		{"all threads", []string{"store 0 0", "load 0 0", "store 0 0", "cas 0 0 0"}, "0:0-1:0@0 0:0-2:0@0 0:0-3:0@0 1:0-2:0@0 2:0-3:0@0"},
		{"the thread, then where it stands", []string{"load 0 1; load 0 0", "store 0 0; store 2 0", "store 1 0; load 0 2"}, "0:0-2:0@1 0:1-1:0@0 1:1-2:1@2"},
		{"where it stands ahead of the other one", []string{"load 0 1; load 0 0", "store 0 0", "store 1 0"}, "0:0-2:0@1 0:1-1:0@0"},
		{"the other one ahead of where that stands", []string{"load 0 0", "fence; store 0 0", "store 0 0"}, "0:0-1:1@0 0:0-2:0@0 1:1-2:0@0"},
		{"where that stands ahead of the word", []string{"const 1 1; loadat 0 0; move 0 1; jump 1", "store 1 0; store 0 0"}, "0:1-1:0@1 0:1-1:1@0"},
		{"the word", []string{"const 1 1; loadat 0 0; move 0 1; jump 1", "storeat 0 0; const 0 1; jump 0"}, "0:1-1:0@0 0:1-1:0@1"},
		{"once, in many states", []string{"fence; fence; store 0 0", "fence; fence; load 0 0", "fence; fence; print 0"}, "0:2-1:2@0"},
		{"by numbers, not by digits", []string{store, store}, strings.Join(all, " ")},
	})
	p := program(t, "words 0 0 0; locks 0; regs 2", store, store, "store 1 0", "load 0 1")
	want := append(slices.Clone(all), "2:0-3:0@1")
	if got := told(find(t, p)); got != strings.Join(want, " ") {
		t.Error(got)
	}
}

// E1: both threads have to be there at once, in some state; a lock that one of them needs keeps it away.
func TestWhereBothCome(t *testing.T) {
	section := "lock 0; load 0 0; store 0 0; unlock 0"
	play(t, "words 0 0 0; locks 2; regs 3", []scene{
		{"under a lock", []string{section, section}, ""},
		{"four under a lock", []string{section, section, section, section}, ""},
		{"under unlike locks", []string{"lock 0; store 0 0; unlock 0", "lock 1; load 0 0; unlock 1"}, "0:1-1:1@0"},
		{"one without the lock", []string{section, "load 0 0"}, "0:2-1:0@0"},
		{"one behind its unlock", []string{"lock 0; unlock 0; store 0 0", section}, "0:2-1:1@0 0:2-1:2@0"},
		{"one ahead of its lock", []string{"load 0 0; lock 0", section}, "0:0-1:2@0"},
		{"ahead of a lock that is never free", []string{"lock 0", "lock 0; load 0 0", "lock 0; lock 0; store 0 0"}, ""},
		{"stuck", []string{"lock 0; lock 1; store 0 0", "lock 1; lock 0; store 0 0"}, ""},
		{"itself", []string{"store 0 0; load 0 0; store 0 0"}, ""},
		{"all alone", []string{"store 0 0; load 0 0", "", "fence"}, ""},
		{"at the end", []string{"", "store 0 0"}, ""},
		{"never gone to", []string{"jump 2; store 0 0", "load 0 0"}, ""},
		{"never gone by", []string{"zero 0 2; store 0 0", "const 0 1; zero 0 3; load 0 0"}, ""},
		{"behind a loop", []string{"jump 0; store 0 0", "load 0 0"}, ""},
		{"within a loop", []string{"store 0 0; jump 0", "load 0 0; jump 0"}, "0:0-1:0@0"},
		{"at an order that is last", []string{"fence; fence; store 0 0", "load 0 0"}, "0:2-1:0@0"},
		{"behind a fall", []string{"unlock 0; store 0 0", "load 0 0"}, ""},
		{"behind a fall at no word", []string{"const 0 3; loadat 1 0; store 0 0", "load 0 0"}, ""},
		{"beside a fall", []string{"unlock 0", "store 0 0", "fence; load 0 0"}, "1:0-2:1@0"},
		{"if the other one was sooner", []string{"const 0 1; store 1 0", "load 0 1; zero 0 3; store 0 0", "load 1 0; const 0 2"}, "0:1-1:0@1 1:2-2:0@0"},
		{"if nobody was ever sooner", []string{"store 1 0", "load 0 1; zero 0 3; store 0 0", "load 1 0"}, "0:0-1:0@1"},
	})
}

// E1: what threads tell each other by OpCas alone does not clash, and keeps others away as a lock does; a store instead does clash.
func TestCas(t *testing.T) {
	take := "const 0 0; const 1 1; cas 0 0 1; zero 0 0; "
	work := "load 2 1; store 1 2; "
	give := "const 0 1; const 1 0; cas 0 0 1"
	play(t, "words 0 0; locks 0; regs 3", []scene{
		{"given back by cas", []string{take + work + give, take + work + give}, ""},
		{"given back by a store", []string{take + work + "const 1 0; store 0 1", take + work + "const 1 0; store 0 1"}, "0:2-1:7@0 0:7-1:2@0"},
		{"nobody takes it", []string{work + give, work + give}, "0:0-1:1@1 0:1-1:0@1 0:1-1:1@1"},
		{"a message", []string{"const 2 5; store 1 2; const 1 1; cas 0 0 1", "load 0 0; zero 0 0; load 1 1; print 1"}, ""},
		{"a message ahead of what it tells of", []string{"const 2 5; const 1 1; cas 0 0 1; store 1 2", "load 0 0; zero 0 0; load 1 1; print 1"}, "0:3-1:2@1"},
	})
}

// counts is a program whose first thread comes to so many states, by a loop of three orders and orders that do nothing; others stand beside it that come to one more than they have orders.
func counts(t *testing.T, states int, others ...string) api.Program {
	t.Helper()
	// Ahead of and behind the first order there is a state each; each turn has three more, the last one two.
	turns := (states - 2 - 1) / 3
	nothing := states - 2 - (3*turns - 1)
	text := "const 0 " + strconv.Itoa(turns) + "; const 1 1; sub 0 0 1; zero 0 5; jump 2" + strings.Repeat("; fence", nothing-1)
	return program(t, "words 0 0; locks 1; regs 2", append([]string{text}, others...)...)
}

// full tells whether there are too many states; nothing is told of clashes then, and space says the same.
func full(t *testing.T, p api.Program) bool {
	t.Helper()
	list, f := race.Find(p)
	_, same := space.SC(p)
	if f != same {
		t.Error("unlike space:", f, same)
	}
	if f == (api.Fault{}) {
		return false
	}
	if f != (api.Fault{Code: api.ErrFull}) || len(list) > 0 {
		t.Error(f, list)
	}
	return true
}

// E1: ErrFull where SC says so: more than MaxStates states, whatever was found among them.
func TestFull(t *testing.T) {
	for _, n := range []int{3998, 3999, 4000, 4001, 4002} {
		if got := full(t, counts(t, n)); got != (n > 4000) {
			t.Error(n, got)
		}
	}
	for _, n := range []int{998, 999, 1000, 1001, 1002} {
		p := counts(t, n, "store 1 0", "load 1 1")
		got := full(t, p)
		if got != (n > 1000) {
			t.Error(n, got)
		}
		if !got && told(find(t, p)) != "1:0-2:0@1" {
			t.Error(n, find(t, p))
		}
	}
	forever := "print 0; jump 0"
	if !full(t, program(t, "words 0; locks 0; regs 1", forever)) || !full(t, program(t, "words 0; locks 0; regs 1", "store 0 0", "load 0 0", forever)) {
		t.Error("what was printed is no part of a state")
	}
	// TSO has more states here, and says nothing.
	p := program(t, "words 0 0; locks 0; regs 1", strings.Repeat("store 0 0; ", 19), strings.Repeat("fence; ", 198)+"load 0 0")
	if _, f := space.TSO(p); f.Code != api.ErrFull || full(t, p) {
		t.Error(f)
	}
	if list := find(t, p); len(list) != 19 || list[18] != (api.Clash{At: 18, Other: 1, Where: 198}) {
		t.Error(list)
	}
}

// E1: Check's fault comes first, also of programs that have clashes, or too many states.
func TestRefuses(t *testing.T) {
	forever := []api.Instr{{Op: api.OpPrint}, {Op: api.OpJump}}
	store := []api.Instr{{Op: api.OpStore}}
	word := []int{0}
	for _, p := range []api.Program{
		{},
		{Regs: 1},
		{Code: [][]api.Instr{store, store, store, store, store}, Words: word, Regs: 1},
		{Code: [][]api.Instr{store, store}, Words: make([]int, api.MaxWords+1), Regs: 1},
		{Code: [][]api.Instr{store, store}, Words: word},
		{Code: [][]api.Instr{store, store}, Words: word, Regs: -1},
		{Code: [][]api.Instr{store, store}, Words: word, Regs: api.MaxRegs + 1},
		{Code: [][]api.Instr{store, store}, Words: word, Regs: math.MaxInt},
		{Code: [][]api.Instr{store, store}, Words: word, Locks: -1, Regs: 1},
		{Code: [][]api.Instr{store, store}, Words: word, Locks: api.MaxLocks + 1, Regs: 1},
		{Code: [][]api.Instr{store, store}, Regs: 1},
		{Code: [][]api.Instr{store, {{Op: api.OpLoad, A: 1}}}, Words: word, Regs: 1},
		{Code: [][]api.Instr{store, store, {{Op: api.OpStoreAt, A: -1}}}, Words: word, Regs: 1},
		{Code: [][]api.Instr{store, store, {{Op: api.OpCas, A: 1}}}, Words: word, Regs: 1},
		{Code: [][]api.Instr{store, store, {{Op: api.OpFence}, {Op: 0}}}, Words: word, Regs: 1},
		{Code: [][]api.Instr{forever, make([]api.Instr, api.MaxCode+1)}, Regs: 1},
		{Code: [][]api.Instr{forever, {{Op: api.OpFence}, {Op: 19}}}, Regs: 1},
		{Code: [][]api.Instr{forever, forever, {{Op: api.OpJump, A: 2}}}, Regs: 1},
	} {
		wrong := asm.Check(p)
		if wrong.Code == api.OK {
			t.Fatal("may be:", p)
		}
		if list, f := race.Find(p); f != wrong || len(list) > 0 {
			t.Error(list, f, wrong)
		}
	}
}

// numbers are a clash's, in the order in which they are held against each other.
func numbers(c api.Clash) [5]int {
	return [5]int{c.Thread, c.At, c.Other, c.Where, c.Word}
}

func rising(list []api.Clash) bool {
	for i := 1; i < len(list); i++ {
		a, b := numbers(list[i-1]), numbers(list[i])
		if slices.Compare(a[:], b[:]) >= 0 {
			return false
		}
	}
	return true
}

// E1: many programs have the clashes that the second writing says.
func TestAgainstOracle(t *testing.T) {
	d := dice(7)
	with, without, tooMany := 0, 0, 0
	for n := range 600 {
		p := anyProgram(&d, 4, 9)
		if n%4 == 0 {
			p = guarded(&d)
		}
		list, f := race.Find(p)
		other, states := oracle(p, 4000)
		switch {
		case states > 4000:
			tooMany++
			if f != (api.Fault{Code: api.ErrFull}) || len(list) > 0 {
				t.Fatal(p, f, list)
			}
			continue
		case len(list) > 0:
			with++
		default:
			without++
		}
		if f != (api.Fault{}) || len(list) != len(other) || !rising(list) {
			t.Fatal(p, f, list, other)
		}
		for _, c := range list {
			if !other[numbers(c)] {
				t.Fatal(p, c, other)
			}
		}
	}
	if with < 100 || without < 100 || tooMany < 10 {
		t.Error("few of a kind:", with, without, tooMany)
	}
}

// kept holds E2 of a program: without clashes it is robust. It tells whether there are clashes, whether it is robust, and whether chapter 4 says anything.
func kept(t *testing.T, p api.Program) (clashes, robust, said bool) {
	t.Helper()
	is, f := space.Robust(p)
	list, g := race.Find(p)
	if f.Code != api.OK || g.Code != api.OK {
		return false, false, false
	}
	if len(list) == 0 && !is {
		t.Fatalf("no clashes, but stores that wait can be seen: %v", p)
	}
	return len(list) > 0, is, true
}

// E2: of all programs of two threads with two such orders each, those without clashes are robust.
func TestAllSmallOnesAreRobust(t *testing.T) {
	orders := []api.Instr{
		{Op: api.OpStore, A: 0, B: 2}, {Op: api.OpStore, A: 1, B: 2}, {Op: api.OpStoreAt, A: 2, B: 2},
		{Op: api.OpLoad, A: 1, B: 0}, {Op: api.OpLoad, A: 1, B: 1}, {Op: api.OpLoadAt, A: 1, B: 0},
		{Op: api.OpCas, A: 0, B: 1, C: 2}, {Op: api.OpCas, A: 1, B: 1, C: 2},
	}
	var codes [][]api.Instr
	for _, a := range orders {
		for _, b := range orders {
			codes = append(codes, []api.Instr{{Op: api.OpConst, A: 2, B: 1}, a, b, {Op: api.OpPrint, A: 1}})
		}
	}
	var seen [2][2]int // by clashes, by robust
	for i, a := range codes {
		for _, b := range codes[i:] {
			clashes, robust, said := kept(t, api.Program{Code: [][]api.Instr{a, b}, Words: []int{0, 0}, Regs: 3})
			if !said {
				t.Fatal("nothing said:", a, b)
			}
			seen[bit(clashes)][bit(robust)]++
		}
	}
	if seen[0][1] < 100 || seen[1][0] < 20 || seen[1][1] < 100 {
		t.Error("few of a kind:", seen)
	}
}

func bit(is bool) int {
	if is {
		return 1
	}
	return 0
}

// E2: the same of programs with locks, loops and words by registers.
func TestWithoutClashesIsRobust(t *testing.T) {
	d := dice(17)
	var seen [2][2]int
	for n := range 1500 {
		p := anyProgram(&d, 3, 5)
		if n%2 == 0 {
			p = guarded(&d)
		}
		if clashes, robust, said := kept(t, p); said {
			seen[bit(clashes)][bit(robust)]++
		}
	}
	if seen[0][1] < 150 || seen[1][0] < 5 || seen[1][1] < 50 {
		t.Error("few of a kind:", seen)
	}
}

// E2: programs that are known: those whose stores that wait can be seen clash; locks and OpCas keep from both.
func TestKnown(t *testing.T) {
	one := "const 0 1; "
	for _, x := range []struct {
		what            string
		clashes, robust bool
		threads         []string
	}{
		{"store buffering", true, false, []string{one + "store 0 0; load 1 1; print 1", one + "store 1 0; load 1 0; print 1"}},
		{"with fences", true, true, []string{one + "store 0 0; fence; load 1 1; print 1", one + "store 1 0; fence; load 1 0; print 1"}},
		{"under a lock", false, true, []string{one + "lock 0; store 0 0; load 1 1; unlock 0; print 1", one + "lock 0; store 1 0; load 1 0; unlock 0; print 1"}},
		{"under unlike locks", true, false, []string{one + "lock 0; store 0 0; unlock 0; load 1 1; print 1", one + "lock 1; store 1 0; unlock 1; load 1 0; print 1"}},
		{"half under a lock", true, true, []string{one + "lock 0; store 0 0; unlock 0; load 1 1; print 1", one + "lock 0; store 1 0; unlock 0; load 1 0; print 1"}},
		{"by cas", false, true, []string{one + "cas 0 1 0; load 1 1; print 1", one + "cas 1 1 0; load 1 0; print 1"}},
		{"half by cas", true, false, []string{one + "store 0 0; load 1 1; print 1", one + "cas 1 1 0; load 1 0; print 1"}},
		{"words of their own", false, true, []string{one + "store 0 0; load 1 0; print 1", one + "store 1 0; load 1 1; print 1"}},
		{"loads alone", false, true, []string{"load 1 1; print 1; load 1 0; print 1", "load 1 0; print 1; load 1 1; print 1"}},
	} {
		p := program(t, "words 0 0; locks 2; regs 2", x.threads...)
		if clashes, robust, said := kept(t, p); !said || clashes != x.clashes || robust != x.robust {
			t.Error(x.what, clashes, robust, said)
		}
	}
}

// P3: nothing that is given is changed or kept, nothing behind a list's length is touched, and each answer is new.
func TestNothingShared(t *testing.T) {
	given := func() api.Program {
		p := program(t, "words 1 0; locks 1; regs 2", "const 0 1; store 1 0; load 1 1; storeat 0 1", "load 0 1; loadat 1 0; cas 1 0 1; store 0 1")
		p.Words = append(p.Words, 7, 8)[:2]
		p.Code[1] = append(p.Code[1], api.Instr{Op: 99})[:4]
		p.Code = append(p.Code, []api.Instr{{Op: 99}})[:2]
		return p
	}
	p, before := given(), given()
	list, again := find(t, p), find(t, p)
	if len(list) < 5 || !slices.Equal(list, again) {
		t.Fatal(list, again)
	}
	whole := list[:cap(list)]
	for i := range whole {
		whole[i].Word = 99
	}
	if !slices.Equal(find(t, p), again) {
		t.Error("kept:", find(t, p))
	}
	if !reflect.DeepEqual(p, before) || !slices.Equal(p.Words[:4], before.Words[:4]) || !slices.Equal(p.Code[1][:5], before.Code[1][:5]) || !reflect.DeepEqual(p.Code[:3], before.Code[:3]) {
		t.Error("changed:", p)
	}
}
