package alloc_test

import (
	"fmt"
	"math"
	"slices"
	"strings"
	"testing"

	"sluice/alloc"
	"sluice/api"
	"sluice/asm"
)

// program is that of orders, which are parted by "; ", with nine of all that there may be so many of.
func program(t *testing.T, threads ...string) api.Program {
	t.Helper()
	text := "words 5 0 0 0 0 0 0 0 0\nlocks 4\nregs 9\n"
	for _, orders := range threads {
		text += "thread\n"
		if orders != "" {
			text += strings.ReplaceAll(orders, "; ", "\n") + "\n"
		}
	}
	p, f := asm.Parse(text)
	if f.Code != api.OK {
		t.Fatalf("%q: %v", text, f)
	}
	return p
}

// shown writes a program that may be.
func shown(t *testing.T, p api.Program) string {
	t.Helper()
	text, f := asm.Text(p)
	if f.Code != api.OK {
		t.Fatalf("%v: %v", p, f)
	}
	return text
}

// orders writes a thread's orders as program takes them.
func orders(t *testing.T, p api.Program, thread int) string {
	t.Helper()
	_, rest, _ := strings.Cut(shown(t, p), "thread\n")
	text := strings.Split(rest, "thread\n")[thread]
	return strings.ReplaceAll(strings.TrimSuffix(text, "\n"), "\n", "; ")
}

// fits is what Check says of a program that is not refused.
func fits(t *testing.T, p api.Program, colours [][]int) bool {
	t.Helper()
	is, f := alloc.Check(p, colours)
	if f != (api.Fault{}) {
		t.Fatalf("%v: %v", p, f)
	}
	return is
}

// found is what Colours says of a program that is not refused.
func found(t *testing.T, p api.Program) [][]int {
	t.Helper()
	colours, f := alloc.Colours(p)
	if f != (api.Fault{}) {
		t.Fatalf("%v: %v", p, f)
	}
	return colours
}

// applied is what becomes of a program and colours that are not refused.
func applied(t *testing.T, p api.Program, colours [][]int) api.Program {
	t.Helper()
	q, f := alloc.Apply(p, colours)
	if f != (api.Fault{}) {
		t.Fatalf("%v %v: %v", p, colours, f)
	}
	return q
}

// line has as many orders that print one register after the other.
func line(op, regs int) []api.Instr {
	var code []api.Instr
	for r := range regs {
		code = append(code, api.Instr{Op: op, A: r})
	}
	return code
}

// clique is a program of threads each of whose registers clashes with each other one.
func clique(threads, regs int) api.Program {
	code := slices.Concat(line(api.OpConst, regs), line(api.OpPrint, regs))
	return api.Program{Code: slices.Repeat([][]api.Instr{code}, threads), Regs: regs}
}

// O1: which lists are colours, and which of them may be.
func TestCheck(t *testing.T) {
	const both, apart, one = "const 0 1; const 1 2; add 2 0 1", "const 0 1; print 0; const 1 1; print 1", "const 0 1; const 1 2; print 0; print 2"
	for _, x := range []struct {
		orders string
		ahead  []int // of the first three registers; the others are 0
		want   bool
	}{
		{both, []int{0, 1, 0}, true},
		{both, []int{1, 0, 0}, true},
		{both, []int{0, 0, 0}, false},
		{both, []int{5, 5, 0}, false},
		{both, []int{5, 4, 5}, true},
		{both, []int{-1, -1, 0}, true},
		{both, []int{-1, 0, 0}, true},
		{both, []int{0, -1, -1}, true},
		{both, []int{6, 1, 0}, false},
		{both, []int{0, 6, 0}, false},
		{both, []int{0, 1, 6}, false},
		{both, []int{0, 1, 5}, true},
		{both, []int{0, 1, -2}, false},
		{both, []int{-2, -2, 0}, false},
		{both, []int{0, 1, math.MaxInt}, false},
		{both, []int{0, 1, math.MinInt}, false},
		{apart, []int{0, 0, 0}, true},
		{apart, []int{3, 3, 3}, true},
		{apart, []int{7, 0, 0}, false},
		// Register 2 is read at last: it clashes with both of the others, which clash as well.
		{one, []int{0, 1, 2}, true},
		{one, []int{0, 1, 1}, false},
		{one, []int{0, 1, 0}, false},
		{one, []int{0, 0, 1}, false},
		{one, []int{-1, 1, 1}, false},
		{one, []int{-1, 1, -1}, true},
		{"", []int{0, 0, 0}, true},
	} {
		colours := append(slices.Clone(x.ahead), 0, 0, 0, 0, 0, 0)
		if fits(t, program(t, x.orders), [][]int{colours}) != x.want {
			t.Errorf("%s %v: %t", x.orders, x.ahead, !x.want)
		}
		others := []int{4, -1, 1, 2, 3, 0, 0, 0, 0}
		if fits(t, program(t, both, x.orders, both), [][]int{others, colours, others}) != x.want {
			t.Errorf("among threads: %s %v: %t", x.orders, x.ahead, !x.want)
		}
	}
}

// O1: there are as many lists as threads, and as many numbers as registers.
func TestCheckCounts(t *testing.T) {
	some := make([]int, 9)
	p := program(t, "print 1", "", "print 2")
	for _, x := range []struct {
		colours [][]int
		want    bool
	}{
		{[][]int{some, some, some}, true},
		{nil, false},
		{[][]int{}, false},
		{[][]int{some, some}, false},
		{[][]int{some, some, some, some}, false},
		{[][]int{some, some, some, nil}, false},
		{[][]int{some, some, nil}, false},
		{[][]int{nil, some, some}, false},
		{[][]int{some, some[:8], some}, false},
		{[][]int{some, make([]int, 10), some}, false},
		{[][]int{some, some, some[:0]}, false},
		{[][]int{make([]int, 10), make([]int, 8), some}, false},
	} {
		if fits(t, p, x.colours) != x.want {
			t.Errorf("%v: %t", x.colours, !x.want)
		}
	}
}

// O1: each two of many that clash.
func TestCheckEachTwo(t *testing.T) {
	const regs = 6
	p := clique(2, regs)
	for thread := range 2 {
		for a := range regs {
			for b := range regs {
				colours := [][]int{{5, 4, 3, 2, 1, 0}, {0, 1, 2, 3, 4, 5}}
				colours[thread][a] = colours[thread][b]
				if fits(t, p, colours) != (a == b) {
					t.Error(thread, a, b)
				}
				if colours[thread][a] = -1; !fits(t, p, colours) {
					t.Error("spilt:", thread, a, b)
				}
			}
		}
	}
}

// spilt counts how often there is no colour.
func spilt(colours [][]int) int {
	n := 0
	for _, c := range slices.Concat(colours...) {
		if c == -1 {
			n++
		}
	}
	return n
}

// O2: of all that clash at once; no more are spilt than have to be.
func TestColoursOfCliques(t *testing.T) {
	for _, regs := range []int{1, 2, 5, 6, 7, 8, 64, 65, api.MaxRegs} {
		for threads := 1; threads <= api.MaxThreads; threads++ {
			p := clique(threads, regs)
			colours := found(t, p)
			if !fits(t, p, colours) || spilt(colours) != threads*max(0, regs-api.FreeRegs) {
				t.Error(regs, threads, colours)
			}
		}
	}
}

// O2: many registers that need few colours.
func TestColoursOfChains(t *testing.T) {
	for wide := 1; wide <= 8; wide++ {
		// So many registers are needed at once, each of them for as long.
		var code []api.Instr
		for at := range api.MaxRegs {
			code = append(code, api.Instr{Op: api.OpConst, A: at})
			if at >= wide-1 {
				code = append(code, api.Instr{Op: api.OpPrint, A: at - wide + 1})
			}
		}
		p := api.Program{Code: [][]api.Instr{code}, Regs: api.MaxRegs}
		colours := found(t, p)
		if !fits(t, p, colours) || (spilt(colours) > 0) != (wide > api.FreeRegs) {
			t.Error(wide, colours)
		}
	}
}

// O2: registers that clash with more others than there are colours, which can share some.
func TestColoursOfCrowds(t *testing.T) {
	for _, needed := range []int{1, 5, 6, 7, 50} {
		for _, written := range []int{1, 5, 6, 7, 50} {
			var code []api.Instr
			for r := range written {
				code = append(code, api.Instr{Op: api.OpConst, A: needed + r}, api.Instr{Op: api.OpPrint, A: needed + r})
			}
			p := api.Program{Code: [][]api.Instr{append(code, line(api.OpPrint, needed)...)}, Regs: needed + written}
			if colours := found(t, p); !fits(t, p, colours) || spilt(colours) > 0 {
				t.Error(needed, written, colours)
			}
		}
	}
}

// O2: nothing that is needed at all.
func TestColoursOfNothing(t *testing.T) {
	for _, regs := range []int{1, 6, 7, api.MaxRegs} {
		p := api.Program{Code: [][]api.Instr{{}, {{Op: api.OpFence}}}, Regs: regs}
		colours := found(t, p)
		if !fits(t, p, colours) || spilt(colours) > 0 {
			t.Error(regs, colours)
		}
	}
}

// O2: what is used most keeps its colour.
func TestColoursCost(t *testing.T) {
	for kept := range 7 {
		p := clique(1, 7)
		p.Code[0] = slices.Concat(p.Code[0][:7], slices.Repeat([]api.Instr{{Op: api.OpPrint, A: kept}}, 3), p.Code[0][7:])
		if colours := found(t, p); !fits(t, p, colours) || colours[0][kept] == -1 || spilt(colours) != 1 {
			t.Error(kept, colours)
		}
	}
}

// scene is an order, by three registers 1, 2 and 3 of nine, and what it becomes by their colours.
type scene struct {
	order   string
	colours [3]int
	want    string
}

// O3: each kind of order, with each of its registers spilt or not. The words 9, 10, 11 are those of spilt registers.
func TestApplyOrders(t *testing.T) {
	const s = -1
	list := []scene{
		{"const 1 -7", [3]int{4, 0, 0}, "const 4 -7"},
		{"const 1 -7", [3]int{s, 0, 0}, "const 6 -7; store 9 6"},
		{"const 2 1", [3]int{s, s, 0}, "const 6 1; store 10 6"},
		{"move 1 2", [3]int{4, 5, 0}, "move 4 5"},
		{"move 1 2", [3]int{s, 5, 0}, "move 6 5; store 9 6"},
		{"move 1 2", [3]int{4, s, 0}, "load 6 9; move 4 6"},
		{"move 1 2", [3]int{s, s, 0}, "load 6 10; move 6 6; store 9 6"},
		{"move 1 1", [3]int{s, 0, 0}, "load 6 9; move 6 6; store 9 6"},
		{"load 1 2", [3]int{4, s, 0}, "load 4 2"},
		{"load 1 2", [3]int{s, 5, 0}, "load 6 2; store 9 6"},
		{"store 1 2", [3]int{s, 5, 0}, "store 1 5"},
		{"store 1 2", [3]int{4, s, 0}, "load 6 9; store 1 6"},
		{"loadat 1 2", [3]int{4, 5, 0}, "loadat 4 5"},
		{"loadat 1 2", [3]int{s, 5, 0}, "loadat 6 5; store 9 6"},
		{"loadat 1 2", [3]int{4, s, 0}, "load 6 9; loadat 4 6"},
		{"loadat 1 2", [3]int{s, s, 0}, "load 6 10; loadat 6 6; store 9 6"},
		{"storeat 1 2", [3]int{4, 5, 0}, "storeat 4 5"},
		{"storeat 1 2", [3]int{s, 5, 0}, "load 6 9; storeat 6 5"},
		{"storeat 1 2", [3]int{4, s, 0}, "load 7 9; storeat 4 7"},
		{"storeat 1 2", [3]int{s, s, 0}, "load 6 9; load 7 10; storeat 6 7"},
		{"storeat 2 1", [3]int{s, s, 0}, "load 6 10; load 7 9; storeat 6 7"},
		{"storeat 1 1", [3]int{s, 0, 0}, "load 6 9; load 7 9; storeat 6 7"},
		{"fence", [3]int{s, s, s}, "fence"},
		{"cas 1 2 3", [3]int{s, 4, 5}, "cas 1 4 5"},
		{"cas 1 2 3", [3]int{0, s, 5}, "load 6 9; cas 1 6 5; store 9 6"},
		{"cas 1 2 3", [3]int{0, 4, s}, "load 7 9; cas 1 4 7"},
		{"cas 1 2 3", [3]int{s, s, s}, "load 6 10; load 7 11; cas 1 6 7; store 10 6"},
		{"cas 1 3 2", [3]int{0, s, s}, "load 6 10; load 7 9; cas 1 6 7; store 10 6"},
		{"cas 3 1 1", [3]int{s, 4, s}, "load 6 9; load 7 9; cas 3 6 7; store 9 6"},
		{"cas 3 1 1", [3]int{2, s, s}, "cas 3 2 2"},
		{"jump 1", [3]int{s, s, s}, "jump 1"},
		{"zero 1 1", [3]int{4, s, s}, "zero 4 1"},
		{"zero 1 1", [3]int{s, 4, 4}, "load 6 9; zero 6 2"},
		{"print 1", [3]int{4, s, s}, "print 4"},
		{"print 2", [3]int{4, s, s}, "load 6 9; print 6"},
		{"lock 1", [3]int{s, s, s}, "lock 1"},
		{"unlock 2", [3]int{s, s, s}, "unlock 2"},
	}
	for _, name := range []string{"add", "sub", "mul", "less", "same"} {
		list = append(list,
			scene{name + " 1 2 3", [3]int{3, 4, 5}, name + " 3 4 5"},
			scene{name + " 1 2 3", [3]int{s, 4, 5}, name + " 6 4 5; store 9 6"},
			scene{name + " 1 2 3", [3]int{3, s, 5}, "load 6 9; " + name + " 3 6 5"},
			scene{name + " 1 2 3", [3]int{3, 4, s}, "load 7 9; " + name + " 3 4 7"},
			scene{name + " 1 2 3", [3]int{3, s, s}, "load 6 9; load 7 10; " + name + " 3 6 7"},
			scene{name + " 1 2 3", [3]int{s, s, s}, "load 6 10; load 7 11; " + name + " 6 6 7; store 9 6"},
			scene{name + " 1 3 2", [3]int{s, s, s}, "load 6 11; load 7 10; " + name + " 6 6 7; store 9 6"},
			scene{name + " 1 2 2", [3]int{3, s, 5}, "load 6 9; load 7 9; " + name + " 3 6 7"},
			scene{name + " 1 1 2", [3]int{s, 4, 5}, "load 6 9; " + name + " 6 6 4; store 9 6"},
			scene{name + " 1 2 1", [3]int{s, 4, 5}, "load 7 9; " + name + " 6 4 7; store 9 6"},
			scene{name + " 1 1 1", [3]int{s, 4, 5}, "load 6 9; load 7 9; " + name + " 6 6 7; store 9 6"},
			scene{name + " 1 1 1", [3]int{2, s, s}, name + " 2 2 2"},
		)
	}
	for _, x := range list {
		colours := slices.Concat([]int{0}, x.colours[:], make([]int, 5))
		q := applied(t, program(t, x.order), [][]int{colours})
		if got := orders(t, q, 0); got != x.want {
			t.Errorf("%s %v: %q, want %q", x.order, x.colours, got, x.want)
		}
		words := slices.Concat([]int{5}, make([]int, 8+spilt([][]int{colours})))
		if !slices.Equal(q.Words, words) || q.Locks != 4 || q.Regs != api.RealRegs {
			t.Errorf("%s %v: %v", x.order, x.colours, q)
		}
	}
}

// O3: numbers c tell the first of what an order became, or behind all.
func TestApplyPlaces(t *testing.T) {
	colours := [][]int{{-1, -1, 2, 3, 0, 0, 0, 0, 0}}
	for _, x := range []struct{ orders, want string }{
		{"", ""},
		{"print 0; print 1", "load 6 9; print 6; load 6 10; print 6"},
		{"jump 1; print 0", "jump 1; load 6 9; print 6"},
		{"jump 2; print 0", "jump 3; load 6 9; print 6"},
		{"zero 0 0; add 0 1 0; zero 0 1; zero 1 4", "load 6 9; zero 6 0; load 6 10; load 7 9; add 6 6 7; store 9 6; load 6 9; zero 6 2; load 6 10; zero 6 10"},
		{"const 0 3; jump 0; zero 2 1; jump 4", "const 6 3; store 9 6; jump 0; zero 2 2; jump 5"},
		{"jump 3; const 0 1; const 1 1; print 2; jump 2", "jump 5; const 6 1; store 9 6; const 6 1; store 10 6; print 2; jump 3"},
		{"print 2; zero 3 2; jump 0", "print 2; zero 3 2; jump 0"},
	} {
		if got := orders(t, applied(t, program(t, x.orders), colours), 0); got != x.want {
			t.Errorf("%s: %q, want %q", x.orders, got, x.want)
		}
	}
}

// O3: words stand by thread, then by register, also of those that no order has.
func TestApplyWords(t *testing.T) {
	p := program(t, "print 0; print 3", "", "print 1; print 3; print 8; print 0")
	q := applied(t, p, [][]int{
		{-1, 0, 0, -1, 0, 0, 0, 0, 0},
		{0, -1, 0, 0, 0, 0, 0, 0, -1},
		{5, -1, -1, -1, 0, 0, 0, 0, -1},
	})
	for thread, want := range []string{"load 6 9; print 6; load 6 10; print 6", "", "load 6 13; print 6; load 6 15; print 6; load 6 16; print 6; print 5"} {
		if got := orders(t, q, thread); got != want {
			t.Errorf("%d: %q, want %q", thread, got, want)
		}
	}
	if !slices.Equal(q.Words, slices.Concat([]int{5}, make([]int, 16))) || q.Regs != api.RealRegs || q.Locks != 4 {
		t.Error(q)
	}
	// With fewer registers than there are at last, and with no word.
	for regs := 1; regs < api.RealRegs; regs++ {
		p := api.Program{Code: [][]api.Instr{{{Op: api.OpPrint}}}, Regs: regs}
		q := applied(t, p, [][]int{slices.Repeat([]int{-1}, regs)})
		if orders(t, q, 0) != "load 6 0; print 6" || len(q.Words) != regs || q.Regs != api.RealRegs || q.Locks != 0 {
			t.Error(regs, q)
		}
		q = applied(t, p, [][]int{make([]int, regs)})
		if orders(t, q, 0) != "print 0" || len(q.Words) != 0 || q.Regs != api.RealRegs {
			t.Error(regs, q)
		}
	}
}

// refusal is what Apply answers where something is wrong.
func refusal(t *testing.T, p api.Program, colours [][]int) api.Fault {
	t.Helper()
	q, f := alloc.Apply(p, colours)
	if f.Code != api.OK && (len(q.Code) > 0 || len(q.Words) > 0 || q.Locks != 0 || q.Regs != 0) {
		t.Error(q, f)
	}
	return f
}

// O3: ErrClash is just where Check says no, whatever else is wrong.
func TestApplyClash(t *testing.T) {
	clash := api.Fault{Code: api.ErrClash}
	p := program(t, "", "const 0 1; const 1 2; add 0 0 1")
	none := make([]int, 9)
	for _, colours := range [][][]int{
		nil, {none}, {none, none}, {none, none, none}, {none, none[:8]}, {none, {0, 1}},
		{none, {0, 1, 0, 0, 0, 0, 0, 0, 6}}, {none, {0, 1, -2, 0, 0, 0, 0, 0, 0}}, {{0, 1, 0, 0, 0, math.MinInt, 0, 0, 0}, {0, 1, 0, 0, 0, 0, 0, 0, 0}},
	} {
		if f := refusal(t, p, colours); f != clash {
			t.Error(colours, f)
		}
	}
	// There would be too many words and orders as well.
	full := clique(4, api.MaxRegs)
	all := slices.Repeat([][]int{slices.Repeat([]int{-1}, api.MaxRegs)}, 4)
	all[3] = slices.Clone(all[3])
	all[3][0], all[3][api.MaxRegs-1] = 0, 0
	if f := refusal(t, full, all); f != clash {
		t.Error(f)
	}
	all[3][0] = 1
	if f := refusal(t, full, all); f != (api.Fault{Code: api.ErrSize}) {
		t.Error(f)
	}
}

// O3: no more words than there may be.
func TestApplyTooManyWords(t *testing.T) {
	for _, x := range []struct{ words, regs, threads int }{{64, 0, 1}, {63, 1, 1}, {0, 64, 1}, {0, 16, 4}, {61, 1, 3}, {60, 1, 4}, {1, 21, 3}} {
		p := api.Program{Code: make([][]api.Instr, x.threads), Words: make([]int, x.words), Regs: x.regs + 1}
		var colours [][]int
		for range x.threads {
			colours = append(colours, append(slices.Repeat([]int{-1}, x.regs), 3))
		}
		q := applied(t, p, colours)
		if len(q.Words) != api.MaxWords || asm.Check(q).Code != api.OK {
			t.Error(x, q)
		}
		colours[x.threads-1][x.regs] = -1
		if f := refusal(t, p, colours); f != (api.Fault{Code: api.ErrSize}) {
			t.Error(x, f)
		}
	}
}

// O3: no more orders of a thread than there may be; the first thread is told.
func TestApplyTooManyOrders(t *testing.T) {
	half := slices.Repeat([]api.Instr{{Op: api.OpPrint, A: 1}}, api.MaxCode/2)
	over := append(slices.Clone(half), api.Instr{Op: api.OpFence})
	colours := slices.Repeat([][]int{{0, -1}}, 4)
	p := api.Program{Code: [][]api.Instr{half, half, half, half}, Words: []int{1}, Regs: 2}
	if q := applied(t, p, colours); len(q.Code[3]) != api.MaxCode || len(q.Words) != 5 {
		t.Error(len(q.Code[3]), q.Words)
	}
	for thread := 3; thread >= 0; thread-- {
		p.Code[thread] = over
		if f := refusal(t, p, colours); f != (api.Fault{Code: api.ErrSize, Thread: thread}) {
			t.Error(thread, f)
		}
	}
	// Words are asked for ahead of that.
	p.Code[0] = half
	p.Words = make([]int, api.MaxWords-3)
	if f := refusal(t, p, colours); f != (api.Fault{Code: api.ErrSize}) {
		t.Error(f)
	}
	// Without anything spilt there are as many as before.
	p = clique(1, api.MaxRegs)
	p.Code[0] = slices.Repeat([]api.Instr{{Op: api.OpPrint, A: 199}}, api.MaxCode)
	if q := applied(t, p, found(t, p)); len(q.Code[0]) != api.MaxCode {
		t.Error(len(q.Code[0]))
	}
}

// wrongs are programs that may not be.
func wrongs() []api.Program {
	code := []api.Instr{{Op: api.OpConst}, {Op: api.OpPrint}}
	long := slices.Repeat(code, api.MaxCode/2)
	return []api.Program{
		{},
		{Regs: 1},
		{Code: [][]api.Instr{code, code, code, code, code}, Regs: 1},
		{Code: [][]api.Instr{code}, Words: make([]int, api.MaxWords+1), Regs: 1},
		{Code: [][]api.Instr{code}},
		{Code: [][]api.Instr{code}, Regs: -1},
		{Code: [][]api.Instr{code}, Regs: api.MaxRegs + 1},
		{Code: [][]api.Instr{code}, Regs: math.MaxInt},
		{Code: [][]api.Instr{code}, Regs: math.MinInt},
		{Code: [][]api.Instr{code}, Locks: -1, Regs: 1},
		{Code: [][]api.Instr{code}, Locks: api.MaxLocks + 1, Regs: 1},
		{Code: [][]api.Instr{long, append(slices.Clone(long), api.Instr{})}, Regs: 1},
		{Code: [][]api.Instr{append(slices.Clone(long), api.Instr{Op: api.OpConst})}, Regs: 1},
		{Code: [][]api.Instr{long, {{Op: api.OpFence}, {Op: 0}}}, Regs: 1},
		{Code: [][]api.Instr{code, {{Op: 19}}}, Regs: 1},
		{Code: [][]api.Instr{code, {{Op: math.MinInt}}}, Regs: 1},
		{Code: [][]api.Instr{code, {{Op: math.MaxInt}}}, Regs: 1},
		{Code: [][]api.Instr{code, {{Op: api.OpPrint, A: -1}}}, Regs: 1},
		{Code: [][]api.Instr{code, {{Op: api.OpConst, A: api.MaxRegs}}}, Regs: api.MaxRegs},
		{Code: [][]api.Instr{code, {{Op: api.OpMove, C: 1}}}, Regs: 2},
		{Code: [][]api.Instr{code, {{Op: api.OpAdd, B: math.MaxInt}}}, Regs: 2},
		{Code: [][]api.Instr{code, {{Op: api.OpLoad}}}, Regs: 1},
		{Code: [][]api.Instr{code, {{Op: api.OpCas, C: 1}}}, Words: []int{0}, Regs: 1},
		{Code: [][]api.Instr{code, {{Op: api.OpJump, A: 2}}}, Regs: 1},
		{Code: [][]api.Instr{code, {{Op: api.OpZero, B: math.MaxInt}}}, Regs: 1},
		{Code: [][]api.Instr{code, {{Op: api.OpUnlock}}}, Regs: 1},
	}
}

// P2: asm.Check's fault comes first, and all else is zero then.
func TestRefuses(t *testing.T) {
	for _, p := range wrongs() {
		wrong := asm.Check(p)
		if wrong.Code == api.OK {
			t.Fatal("may be:", p)
		}
		if colours, f := alloc.Colours(p); f != wrong || len(colours) > 0 {
			t.Error(p, colours, f, wrong)
		}
		for _, colours := range [][][]int{nil, {{0}}, {{0}, {0}}, {{9}, {-9}}, make([][]int, 4)} {
			if is, f := alloc.Check(p, colours); f != wrong || is {
				t.Error(p, is, f, wrong)
			}
			if f := refusal(t, p, colours); f != wrong {
				t.Error(p, f, wrong)
			}
		}
	}
}

// given is a program with something behind the length of each of its lists, and such colours of it.
func given(t *testing.T) (api.Program, [][]int) {
	t.Helper()
	p := program(t, "const 1 1; const 2 1; storeat 1 2; zero 2 0; print 3; const 5 5", "load 3 1; load 4 1; cas 1 3 4; storeat 3 4", "zero 1 2; print 1; fence", "")
	p.Words = append(p.Words, 7, 8)[:9]
	for i := range p.Code {
		n := len(p.Code[i])
		p.Code[i] = append(p.Code[i], api.Instr{Op: 99}, api.Instr{Op: api.OpPrint})[:n]
	}
	p.Code = append(p.Code, []api.Instr{{Op: 99}})[:4]
	colours := [][]int{{0, -1, 1, 2, -1, -1, -1, 3, 3, 99}, {0, 0, 0, -1, 5, 5, 5, 5, 5, 99}, {-1, -1, -1, -1, -1, -1, -1, -1, -1, 99}, {0, 0, 0, 0, 0, 0, 0, 0, 0, 99}, {77}}
	for i := range colours[:4] {
		colours[i] = colours[i][:9]
	}
	return p, colours[:4]
}

// whole is all that lies in what is given, what is behind lengths as well.
func whole(p api.Program, colours [][]int) string {
	text := fmt.Sprint(p.Words[:cap(p.Words)], p.Locks, p.Regs)
	for _, code := range p.Code[:cap(p.Code)] {
		text += fmt.Sprint(code[:cap(code)], len(code))
	}
	for _, list := range colours[:cap(colours)] {
		text += fmt.Sprint(list[:cap(list)], len(list))
	}
	return text
}

// spoil writes over all of a list, what is behind its length as well.
func spoil[T any](list []T, by T) {
	list = list[:cap(list)]
	for i := range list {
		list[i] = by
	}
}

// P3: nothing that is given is changed or kept, nothing behind a list's length is read or touched, and each list that is answered is of its own.
func TestNothingShared(t *testing.T) {
	p, colours := given(t)
	before := whole(p, colours)
	got, again := applied(t, p, colours), applied(t, p, colours)
	want := shown(t, again)
	if shown(t, got) != want || whole(p, colours) != before {
		t.Fatal(got, again, p)
	}
	spoil(got.Words, -9)
	for thread := range got.Code {
		if !slices.Equal(got.Code[thread], again.Code[thread]) {
			t.Error("shared:", thread)
		}
		spoil(got.Code[thread], api.Instr{Op: -9})
	}
	spoil(got.Code, nil)
	if whole(p, colours) != before || shown(t, again) != want || shown(t, applied(t, p, colours)) != want {
		t.Error("changed or kept:", p)
	}
}

// P3: so of colours.
func TestNoColoursShared(t *testing.T) {
	p, colours := given(t)
	before := whole(p, colours)
	if !fits(t, p, colours) || whole(p, colours) != before {
		t.Error("changed:", p, colours)
	}
	got, again := found(t, p), found(t, p)
	if whole(p, colours) != before {
		t.Error("changed:", p)
	}
	for thread := range got {
		if !fits(t, p, got) {
			t.Error("shared:", thread)
		}
		spoil(got[thread], -9)
		got[thread] = again[thread]
	}
	spoil(got, nil)
	if !fits(t, p, again) || !fits(t, p, found(t, p)) || whole(p, colours) != before {
		t.Error("changed or kept:", p)
	}
}
