package live_test

import (
	"fmt"
	"math"
	"slices"
	"strings"
	"testing"

	"sluice/api"
	"sluice/asm"
	"sluice/live"
	"sluice/rtl"
)

// face is one of the two functions of the package.
type face func(api.Program) ([][][]int, api.Fault)

// program is that of orders, which are parted by "; ", with nine of all that there may be so many of.
func program(t *testing.T, threads ...string) api.Program {
	t.Helper()
	text := "words 0 0 0 0 0 0 0 0 0\nlocks 4\nregs 9\n"
	for _, orders := range threads {
		text += "thread\n"
		if orders != "" {
			text += strings.ReplaceAll(orders, "; ", "\n") + "\n"
		}
	}
	p, f := asm.Parse(text)
	if f.Code != api.OK {
		t.Fatalf("%q: %v", text, f)
	}
	return p
}

// shown writes lists of one thread, parted by a comma, an empty one as a dash.
func shown(lists [][]int) string {
	var texts []string
	for _, list := range lists {
		text := strings.Trim(fmt.Sprint(list), "[]")
		if text == "" {
			text = "-"
		}
		texts = append(texts, text)
	}
	return strings.Join(texts, ", ")
}

// all has what is told of a program that is not refused.
func all(t *testing.T, of face, p api.Program) [][][]int {
	t.Helper()
	threads, f := of(p)
	if f != (api.Fault{}) {
		t.Fatalf("%v: %v", p, f)
	}
	return threads
}

func same(a, b [][][]int) bool {
	return slices.EqualFunc(a, b, func(x, y [][]int) bool { return slices.EqualFunc(x, y, slices.Equal) })
}

// scene is a thread's orders, and what is told of them.
type scene struct{ what, orders, want string }

func play(t *testing.T, of face, list []scene) {
	t.Helper()
	for _, x := range list {
		got := all(t, of, program(t, x.orders))
		if len(got) != 1 || shown(got[0]) != x.want {
			t.Errorf("%s: %q, want %q", x.what, shown(got[0]), x.want)
		}
		// What other threads have makes no difference.
		got = all(t, of, program(t, "print 8; const 7 1; print 6", x.orders, "", x.orders))
		if len(got) != 4 || shown(got[1]) != x.want || shown(got[3]) != x.want {
			t.Errorf("%s, among threads: %v, want %q", x.what, got, x.want)
		}
	}
}

// deed is an order, what it reads and, if not -1, writes.
type deed struct {
	order, reads string
	writes       int
}

// deeds are of all kinds of orders, with numbers that are unlike and with such as are the same.
func deeds() []deed {
	return []deed{
		{"const 1 2", "-", 1}, {"const 1 -2", "-", 1}, {"const 2 1", "-", 2}, {"const 0 0", "-", 0},
		{"move 1 2", "2", 1}, {"move 2 1", "1", 2}, {"move 1 1", "1", 1}, {"move 1 0", "0", 1},
		{"add 1 2 3", "2 3", 1}, {"sub 1 2 3", "2 3", 1}, {"mul 1 2 3", "2 3", 1}, {"less 1 2 3", "2 3", 1}, {"same 1 2 3", "2 3", 1},
		{"add 1 3 2", "2 3", 1}, {"sub 2 3 1", "1 3", 2}, {"mul 1 2 2", "2", 1}, {"less 1 1 2", "1 2", 1}, {"same 1 2 1", "1 2", 1}, {"add 1 1 1", "1", 1},
		{"load 1 2", "-", 1}, {"load 2 1", "-", 2},
		{"store 1 2", "2", -1}, {"store 2 1", "1", -1}, {"store 0 0", "0", -1},
		{"loadat 1 2", "2", 1}, {"loadat 2 1", "1", 2}, {"loadat 1 1", "1", 1},
		{"storeat 1 2", "1 2", -1}, {"storeat 2 1", "1 2", -1}, {"storeat 1 1", "1", -1},
		{"fence", "-", -1},
		{"cas 1 2 3", "2 3", 2}, {"cas 1 3 2", "2 3", 3}, {"cas 1 2 2", "2", 2}, {"cas 3 2 1", "1 2", 2}, {"cas 2 1 3", "1 3", 1},
		{"jump 1", "-", -1}, {"zero 2 1", "2", -1}, {"zero 1 1", "1", -1}, {"zero 0 1", "0", -1},
		{"print 1", "1", -1}, {"print 3", "3", -1},
		{"lock 1", "-", -1}, {"lock 2", "-", -1}, {"unlock 1", "-", -1}, {"unlock 2", "-", -1},
	}
}

// M1: what an order reads is live ahead of it, and by it nothing else; what it writes is so no more.
func TestReads(t *testing.T) {
	for _, x := range deeds() {
		play(t, live.Ahead, []scene{{x.order, x.order, x.reads + ", -"}})
		// All of 0 to 3 are live behind it.
		var want []int
		for r := range 4 {
			if r != x.writes || strings.Contains(x.reads, fmt.Sprint(r)) {
				want = append(want, r)
			}
		}
		rest := "0 1 2 3, 0 1 3, 3, -"
		play(t, live.Ahead, []scene{{x.order + " ahead of others", x.order + "; print 2; storeat 1 0; print 3", shown([][]int{want}) + ", " + rest}})
	}
}

// M1, M3: what an order writes clashes with all that is live behind it, but for itself, and nothing else does.
func TestWrites(t *testing.T) {
	for _, x := range deeds() {
		order := program(t, x.order).Code[0][0]
		if written, is := live.Writes(order); is != (x.writes >= 0) || written != max(x.writes, 0) {
			t.Errorf("%s writes %d, %t", x.order, written, is)
		}
		want := make([][]int, 9)
		for r := range 4 {
			if r != x.writes && x.writes >= 0 {
				want[r] = []int{x.writes}
				want[x.writes] = append(want[x.writes], r)
			}
		}
		play(t, live.Clash, []scene{
			{x.order, x.order, "-, -, -, -, -, -, -, -, -"},
			{x.order + " ahead of others", x.order + "; print 2; storeat 1 0; print 3", shown(want)},
		})
	}
}

// M1: which registers an order reads, by turns, and where these and the one that it writes stand in it.
func TestUses(t *testing.T) {
	for _, x := range []struct{ order, reads, other string }{
		{"const 1 2", "[]", "const 6 2"},
		{"move 1 2", "[2]", "move 6 7"},
		{"add 1 3 2", "[3 2]", "add 6 7 8"},
		{"sub 1 2 3", "[2 3]", "sub 6 7 8"},
		{"mul 1 2 2", "[2 2]", "mul 6 7 8"},
		{"less 1 1 2", "[1 2]", "less 6 7 8"},
		{"same 1 1 1", "[1 1]", "same 6 7 8"},
		{"load 1 2", "[]", "load 6 2"},
		{"store 1 2", "[2]", "store 1 7"},
		{"loadat 1 2", "[2]", "loadat 6 7"},
		{"storeat 2 1", "[2 1]", "storeat 7 8"},
		{"storeat 1 1", "[1 1]", "storeat 7 8"},
		{"fence", "[]", "fence"},
		{"cas 3 2 1", "[2 1]", "cas 3 6 8"},
		{"cas 3 2 2", "[2 2]", "cas 3 6 8"},
		{"jump 1", "[]", "jump 1"},
		{"zero 2 1", "[2]", "zero 7 1"},
		{"print 1", "[1]", "print 7"},
		{"lock 1", "[]", "lock 1"},
		{"unlock 1", "[]", "unlock 1"},
	} {
		order := program(t, x.order).Code[0][0]
		if got := fmt.Sprint(live.Reads(order)); got != x.reads {
			t.Errorf("%s reads %s, want %s", x.order, got, x.reads)
		}
		reads, written := live.Uses(&order)
		for i, register := range reads {
			*register = 7 + i
		}
		if written != nil {
			*written = 6
		}
		if want := program(t, x.other).Code[0][0]; order != want {
			t.Errorf("%s: %v, want %v", x.order, order, want)
		}
	}
}

// M1, M2: over any orders that can follow.
func TestAheadByWays(t *testing.T) {
	play(t, live.Ahead, []scene{
		{"nothing", "", "-"},
		{"the example of the tests", "const 0 1; const 1 2; add 0 0 1; print 0", "-, 0, 0 1, 0, -"},
		{"up to the one that reads", "fence; fence; print 4; fence", "4, 4, 4, -, -"},
		{"back to the one that writes", "fence; const 4 4; fence; print 4", "-, -, 4, 4, -"},
		{"written and never read", "const 4 4; fence", "-, -, -"},
		{"read again behind a write", "print 1; const 1 2; print 1", "1, -, 1, -"},
		{"reads ahead of writing", "add 1 1 1; print 1", "1, 1, -"},
		{"moved on", "move 2 1; move 3 2; print 3", "1, 2, 3, -"},
		{"a jump behind the last", "jump 2; print 1", "-, 1, -"},
		{"a jump to the next one", "jump 1; print 1", "1, 1, -"},
		{"a jump to itself", "jump 0; print 1", "-, 1, -"},
		{"a jump past one that reads", "jump 2; print 1; print 2", "2, 1 2, 2, -"},
		{"a jump past one that writes", "jump 2; const 2 1; print 2", "2, -, 2, -"},
		{"a jump back", "print 1; jump 0; print 2", "1, 1, 2, -"},
		{"a jump back behind a write", "const 1 1; print 1; jump 0", "-, 1, -, -"},
		{"zero leads both ways", "zero 0 3; print 1; jump 4; print 2; fence", "0 1 2, 1, -, 2, -, -"},
		{"zero behind the last", "zero 3 2; print 1", "1 3, 1, -"},
		{"zero to the next one", "zero 3 1; print 1", "1 3, 1, -"},
		{"zero to itself", "zero 3 0", "3, -"},
		{"zero as the last one, back", "print 2; const 3 1; zero 3 0", "2, 2, 2 3, -"},
		{"zero is a way by itself", "fence; jump 4; print 5; print 6; zero 2 2; fence", "2 5 6, 2 5 6, 2 5 6, 2 5 6, 2 5 6, -, -"},
		{"written on one way", "zero 0 2; const 1 1; print 1", "0 1, -, 1, -"},
		{"written on both ways", "zero 0 3; const 1 1; jump 4; const 1 2; print 1", "0, -, 1, -, 1, -"},
		{"a loop", "const 1 5; print 0; sub 1 1 2; zero 1 5; jump 1", "0 2, 0 1 2, 0 1 2, 0 1 2, 0 1 2, -"},
		{"a loop in a loop", "zero 0 7; zero 1 5; print 2; const 1 0; jump 1; print 3; jump 0; print 4", "0 1 2 3 4, 0 1 2 3 4, 0 2 3 4, 0 2 3 4, 0 1 2 3 4, 0 1 2 3 4, 0 1 2 3 4, 4, -"},
		{"a loop without an end", "print 1; jump 0", "1, 1, -"},
		{"to which no way comes", "jump 4; print 1; const 2 0; print 2; print 3", "3, 1 3, 3, 2 3, 3, -"},
		{"ways backward", "jump 3; print 5; jump 5; jump 1; fence; jump 4", "5, 5, -, 5, -, -, -"},
		{"ways that go on further back", "jump 7; print 8; jump 9; jump 1; fence; jump 3; fence; jump 5; fence", "8, 8, -, 8, 8, 8, 8, 8, -, -"},
	})
}

// M3: what is written while another one is live, and nothing else.
func TestClash(t *testing.T) {
	play(t, live.Clash, []scene{
		{"nothing", "", "-, -, -, -, -, -, -, -, -"},
		{"the example of the tests", "const 0 1; const 1 2; add 0 0 1; print 0", "1, 0, -, -, -, -, -, -, -"},
		{"one behind the other", "const 0 1; print 0; const 1 1; print 1", "-, -, -, -, -, -, -, -, -"},
		{"one within the other", "const 0 1; const 1 1; print 1; print 0", "1, 0, -, -, -, -, -, -, -"},
		{"one ahead of the other's end", "const 0 1; const 1 1; print 0; print 1", "1, 0, -, -, -, -, -, -, -"},
		{"read last as the other is written", "const 0 1; move 1 0; print 1", "-, -, -, -, -, -, -, -, -"},
		{"read later than the other is written", "const 0 1; move 1 0; print 1; print 0", "1, 0, -, -, -, -, -, -, -"},
		{"both live and never written", "print 0; print 1; storeat 0 1", "-, -, -, -, -, -, -, -, -"},
		{"one never written", "print 0; const 1 1; print 1; print 0", "1, 0, -, -, -, -, -, -, -"},
		{"written, not needed", "const 5 1; print 2; print 3", "-, -, 5, 5, -, 2 3, -, -, -"},
		{"itself", "const 1 1; add 1 1 1; print 1", "-, -, -, -, -, -, -, -, -"},
		{"behind the last one nothing is live", "print 1; const 2 1", "-, -, -, -, -, -, -, -, -"},
		{"cas writes B while C is live", "cas 0 1 2; print 2", "-, 2, 1, -, -, -, -, -, -"},
		{"cas writes B, C is not live", "cas 0 1 2; print 1", "-, -, -, -, -, -, -, -, -"},
		{"cas does not write its word's number", "cas 4 1 2; print 5", "-, 5, -, -, -, 1, -, -, -"},
		{"live by a jump back", "print 1; const 2 1; jump 0", "-, 2, 1, -, -, -, -, -, -"},
		{"not live by a jump", "const 2 1; jump 3; print 1; print 2", "-, -, -, -, -, -, -, -, -"},
		{"live on one of two ways", "const 2 1; zero 2 4; print 3; jump 5; print 4", "-, -, 3 4, 2, 2, -, -, -, -"},
		{"unlike ways", "zero 0 4; const 1 1; print 1; jump 6; const 2 1; print 2", "-, -, -, -, -, -, -, -, -"},
		{"to which no way comes", "jump 3; const 1 1; print 2; fence", "-, 2, 1, -, -, -, -, -, -"},
		{"some twice", "const 1 1; const 1 2; const 2 1; const 1 3; add 0 1 2; add 0 1 2; print 0", "1 2, 0 2, 0 1, -, -, -, -, -, -"},
		{"in unlike turns", "const 8 1; const 3 1; const 5 1; const 1 1; print 8; print 5; print 3; print 1", "-, 3 5 8, -, 1 5 8, -, 1 3 8, -, -, 1 3 5"},
	})
}

// M2, M3: threads with as much in them as may be.
func TestGreatest(t *testing.T) {
	var code []api.Instr
	for r := range api.MaxRegs {
		code = append(code, api.Instr{Op: api.OpConst, A: r})
	}
	for r := range api.MaxRegs {
		code = append(code, api.Instr{Op: api.OpPrint, A: r})
	}
	if len(code) != api.MaxCode {
		t.Fatal(len(code))
	}
	p := api.Program{Code: slices.Repeat([][]api.Instr{code}, api.MaxThreads), Regs: api.MaxRegs}
	var registers []int
	for r := range api.MaxRegs {
		registers = append(registers, r)
	}
	var ahead, clash [][]int
	for n := range api.MaxRegs {
		ahead = append(ahead, registers[:n])
		clash = append(clash, slices.Concat(registers[:n], registers[n+1:]))
	}
	for n := range api.MaxRegs + 1 {
		ahead = append(ahead, registers[n:])
	}
	if got := all(t, live.Ahead, p); !same(got, slices.Repeat([][][]int{ahead}, api.MaxThreads)) {
		t.Error(got)
	}
	if got := all(t, live.Clash, p); !same(got, slices.Repeat([][][]int{clash}, api.MaxThreads)) {
		t.Error(got)
	}
}

// M2, M3: each register by itself, with all others or none beside it.
func TestEachRegister(t *testing.T) {
	for r := range api.MaxRegs {
		other := (r + 1) % api.MaxRegs
		code := []api.Instr{{Op: api.OpConst, A: other}, {Op: api.OpStoreAt, A: r, B: other}}
		p := api.Program{Code: [][]api.Instr{code}, Regs: api.MaxRegs}
		both := []int{min(r, other), max(r, other)}
		if got := all(t, live.Ahead, p); !same(got, [][][]int{{{r}, both, {}}}) {
			t.Error(r, got)
		}
		want := make([][]int, api.MaxRegs)
		want[r], want[other] = []int{other}, []int{r}
		if got := all(t, live.Clash, p); !same(got, [][][]int{want}) {
			t.Error(r, got)
		}
	}
}

// M2, M3: there is a list of each order and of behind the last one, and of each register that the program has.
func TestHowMany(t *testing.T) {
	for _, regs := range []int{1, 2, 63, 64, 65, 128, 129, api.MaxRegs} {
		for threads := 1; threads <= api.MaxThreads; threads++ {
			p := api.Program{Code: make([][]api.Instr, threads), Regs: regs}
			for i := range p.Code {
				p.Code[i] = slices.Repeat([]api.Instr{{Op: api.OpPrint, A: regs - 1}}, 2*i)
			}
			ahead, clash := all(t, live.Ahead, p), all(t, live.Clash, p)
			if len(ahead) != threads || len(clash) != threads {
				t.Fatal(regs, ahead, clash)
			}
			for i := range threads {
				want := slices.Concat(slices.Repeat([][]int{{regs - 1}}, 2*i), [][]int{{}})
				if !slices.EqualFunc(ahead[i], want, slices.Equal) || !slices.EqualFunc(clash[i], make([][]int, regs), slices.Equal) {
					t.Error(regs, threads, i, ahead[i], clash[i])
				}
			}
		}
	}
}

// M1: ways over as many orders as there may be, from either end.
func TestLongWays(t *testing.T) {
	onward, backward := make([]api.Instr, api.MaxCode), make([]api.Instr, api.MaxCode)
	for at := range api.MaxCode {
		onward[at] = api.Instr{Op: api.OpJump, A: at + 1}
		backward[at] = api.Instr{Op: api.OpJump, A: max(at-1, 0)}
	}
	onward[api.MaxCode-1] = api.Instr{Op: api.OpPrint, A: 7}
	backward[0] = api.Instr{Op: api.OpPrint, A: 7}
	backward[1] = api.Instr{Op: api.OpJump, A: api.MaxCode}
	backward[2] = api.Instr{Op: api.OpConst, A: 3}
	backward[3] = api.Instr{Op: api.OpJump, A: 0}
	p := api.Program{Code: [][]api.Instr{onward, backward}, Regs: 8}
	want := slices.Concat(slices.Repeat([][]int{{7}}, api.MaxCode), [][]int{{}})
	there := slices.Clone(want)
	there[1] = nil
	if got := all(t, live.Ahead, p); !same(got, [][][]int{want, there}) {
		t.Error(got)
	}
	clash := make([][]int, 8)
	clash[3], clash[7] = []int{7}, []int{3}
	if got := all(t, live.Clash, p); !same(got, [][][]int{make([][]int, 8), clash}) {
		t.Error(got)
	}
}

// M1 to M3: made-up programs.
func TestAgainstOracle(t *testing.T) {
	d := dice(13)
	longest := 0
	for i := range 3000 {
		m := maker{dice: &d, regs: 1 + d.below(7)}
		p := m.program(1+d.below(4), 2+i%15)
		ahead, clash := all(t, live.Ahead, p), all(t, live.Clash, p)
		if !same(ahead, aheadOf(p)) || !same(clash, clashOf(p)) {
			t.Fatal(p, ahead, clash)
		}
		for _, lists := range clash {
			for _, list := range lists {
				longest = max(longest, len(list))
			}
		}
	}
	if longest < 6 {
		t.Error("the programs say little:", longest)
	}
	for range 4 {
		p := maker{dice: &d, regs: api.MaxRegs}.program(2, 120)
		if ahead, clash := all(t, live.Ahead, p), all(t, live.Clash, p); !same(ahead, aheadOf(p)) || !same(clash, clashOf(p)) {
			t.Fatal(p, ahead, clash)
		}
	}
}

// M1 to M3: orders of texts of the little language.
func TestOfTexts(t *testing.T) {
	p, _ := rtl.Make("int x;thread{int a=x;print(a+1);}")
	if got := shown(all(t, live.Ahead, p)[0]); got != "-, 1, 0, 1, 1 2, 1, -" {
		t.Error(got)
	}
	if got := shown(all(t, live.Clash, p)[0]); got != "-, 2, 1" {
		t.Error(got)
	}
	for _, text := range []string{
		"int x;lock m;thread{lock(m);x=x+1;unlock(m);}thread{lock(m);x=x*2;unlock(m);}",
		"int x;thread{int i=0;int s=0;while(i<10){i=i+1;if(i==5&&x){s=s*2;}else{s=s+i;}}print(s);}",
		"int x=4;thread{int a=0;a=cas(x,4,1+x||0);while(!a){int b=a-x;a=-b;}x=a;}thread{}",
	} {
		p, f := rtl.Make(text)
		if f.Code != api.OK {
			t.Fatal(text, f)
		}
		if ahead, clash := all(t, live.Ahead, p), all(t, live.Clash, p); !same(ahead, aheadOf(p)) || !same(clash, clashOf(p)) {
			t.Error(text, ahead, clash)
		}
	}
}

// P2: Check's fault comes first, and all else is zero then.
func TestRefuses(t *testing.T) {
	code := []api.Instr{{Op: api.OpConst}, {Op: api.OpPrint}}
	long := slices.Repeat(code, api.MaxCode/2)
	for _, p := range []api.Program{
		{},
		{Regs: 1},
		{Code: [][]api.Instr{code, code, code, code, code}, Regs: 1},
		{Code: [][]api.Instr{code}, Words: make([]int, api.MaxWords+1), Regs: 1},
		{Code: [][]api.Instr{code}},
		{Code: [][]api.Instr{code}, Regs: -1},
		{Code: [][]api.Instr{code}, Regs: api.MaxRegs + 1},
		{Code: [][]api.Instr{code}, Regs: math.MaxInt},
		{Code: [][]api.Instr{code}, Regs: math.MinInt},
		{Code: [][]api.Instr{code}, Locks: -1, Regs: 1},
		{Code: [][]api.Instr{code}, Locks: api.MaxLocks + 1, Regs: 1},
		{Code: [][]api.Instr{long, append(slices.Clone(long), api.Instr{})}, Regs: 1},
		{Code: [][]api.Instr{long, {{Op: api.OpFence}, {Op: 0}}}, Regs: 1},
		{Code: [][]api.Instr{code, {{Op: 19}}}, Regs: 1},
		{Code: [][]api.Instr{code, {{Op: math.MinInt}}}, Regs: 1},
		{Code: [][]api.Instr{code, {{Op: api.OpPrint, A: 1}}}, Regs: 1},
		{Code: [][]api.Instr{code, {{Op: api.OpPrint, A: -1}}}, Regs: 1},
		{Code: [][]api.Instr{code, {{Op: api.OpPrint, A: math.MaxInt}}}, Regs: api.MaxRegs},
		{Code: [][]api.Instr{code, {{Op: api.OpConst, A: api.MaxRegs}}}, Regs: api.MaxRegs},
		{Code: [][]api.Instr{code, {{Op: api.OpMove, C: 1}}}, Regs: 2},
		{Code: [][]api.Instr{code, {{Op: api.OpLoad}}}, Regs: 1},
		{Code: [][]api.Instr{code, {{Op: api.OpCas, C: 1}}}, Words: []int{0}, Regs: 1},
		{Code: [][]api.Instr{code, {{Op: api.OpJump, A: 2}}}, Regs: 1},
		{Code: [][]api.Instr{code, {{Op: api.OpJump, A: -1}}}, Regs: 1},
		{Code: [][]api.Instr{code, {{Op: api.OpZero, B: math.MaxInt}}}, Regs: 1},
		{Code: [][]api.Instr{code, {{Op: api.OpUnlock}}}, Regs: 1},
	} {
		wrong := asm.Check(p)
		if wrong.Code == api.OK {
			t.Fatal("may be:", p)
		}
		for i, of := range []face{live.Ahead, live.Clash} {
			if threads, f := of(p); f != wrong || len(threads) > 0 {
				t.Error(i, p, threads, f, wrong)
			}
		}
	}
}

// given is a program with something behind the length of each of its lists.
func given(t *testing.T) api.Program {
	t.Helper()
	p := program(t, "const 1 1; const 2 1; storeat 1 2; zero 2 0; print 3", "load 3 1; load 4 1; cas 1 3 4; storeat 3 4", "print 1; print 1; fence", "")
	p.Words = append(p.Words, 7, 8)[:9]
	for i := range p.Code {
		n := len(p.Code[i])
		p.Code[i] = append(p.Code[i], api.Instr{Op: 99}, api.Instr{Op: api.OpPrint})[:n]
	}
	p.Code = append(p.Code, []api.Instr{{Op: 99}})[:4]
	return p
}

// whole is all that lies in a program's lists, what is behind their lengths as well.
func whole(p api.Program) string {
	text := fmt.Sprint(p.Words[:cap(p.Words)], p.Locks, p.Regs)
	for _, code := range p.Code[:cap(p.Code)] {
		text += fmt.Sprint(code[:cap(code)], len(code))
	}
	return text
}

// spoil writes over all of a list, what is behind its length as well.
func spoil[T any](list []T, by T) {
	list = list[:cap(list)]
	for i := range list {
		list[i] = by
	}
}

// P3: nothing that is given is changed or kept, nothing behind a list's length is read or touched, and each list that is answered is of its own.
func TestNothingShared(t *testing.T) {
	for i, of := range []face{live.Ahead, live.Clash} {
		p := given(t)
		before := whole(p)
		got, again := all(t, of, p), all(t, of, p)
		if !same(got, again) || whole(p) != before {
			t.Fatal(i, got, again, p)
		}
		for thread := range got {
			for at := range got[thread] {
				if !slices.Equal(got[thread][at], again[thread][at]) {
					t.Error(i, "shared:", thread, at)
				}
				spoil(got[thread][at], -9)
			}
			spoil(got[thread], []int{-9})
			for other := thread + 1; other < len(got); other++ {
				if !slices.EqualFunc(got[other], again[other], slices.Equal) {
					t.Error(i, "shared:", thread, other)
				}
			}
		}
		spoil(got, nil)
		if whole(p) != before || !same(all(t, of, p), again) {
			t.Error(i, "changed or kept:", p)
		}
	}
}

// P3: what words hold, locks and numbers that are no registers make no difference.
func TestOnlyRegistersCount(t *testing.T) {
	p := given(t)
	q := given(t)
	q.Words = slices.Repeat([]int{math.MinInt}, api.MaxWords)
	q.Code[0][0].B = math.MaxInt
	q.Code[1][0].B, q.Code[1][2].A = 63, 60
	if !same(all(t, live.Ahead, p), all(t, live.Ahead, q)) || !same(all(t, live.Clash, p), all(t, live.Clash, q)) {
		t.Error(q)
	}
}
