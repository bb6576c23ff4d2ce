package opt_test

import (
	"fmt"
	"math"
	"slices"
	"strings"
	"testing"

	"sluice/api"
	"sluice/asm"
	"sluice/opt"
)

// face is one of the two functions of the package.
type face func(api.Program) (api.Program, api.Fault)

// program is that of orders, which are parted by "; ", with nine of all that there may be so many of.
func program(t *testing.T, threads ...string) api.Program {
	t.Helper()
	text := "words 5 0 0 0 0 0 0 0 0\nlocks 4\nregs 9\n"
	for _, orders := range threads {
		text += "thread\n"
		if orders != "" {
			text += strings.ReplaceAll(orders, "; ", "\n") + "\n"
		}
	}
	p, f := asm.Parse(text)
	if f.Code != api.OK {
		t.Fatalf("%q: %v", text, f)
	}
	return p
}

// shown writes a program that may be.
func shown(t *testing.T, p api.Program) string {
	t.Helper()
	text, f := asm.Text(p)
	if f.Code != api.OK {
		t.Fatalf("%v: %v", p, f)
	}
	return text
}

// done is what becomes of a program that is not refused.
func done(t *testing.T, by face, p api.Program) api.Program {
	t.Helper()
	q, f := by(p)
	if f != (api.Fault{}) {
		t.Fatalf("%v: %v", p, f)
	}
	return q
}

// scene is a thread's orders, and what becomes of them; "" stands for the same orders.
type scene struct{ what, orders, want string }

func play(t *testing.T, by face, list []scene) {
	t.Helper()
	const others = "add 3 3 4; print 3; zero 3 3; fence"
	thirds := shown(t, done(t, by, program(t, others)))
	for _, x := range list {
		want := x.want
		if want == "" {
			want = x.orders
		}
		if want == "none" {
			want = ""
		}
		if got := shown(t, done(t, by, program(t, x.orders))); got != shown(t, program(t, want)) {
			t.Errorf("%s: %q, want %q", x.what, got, want)
		}
		// What other threads have makes no difference.
		got := shown(t, done(t, by, program(t, others, x.orders, "", x.orders)))
		_, third, _ := strings.Cut(thirds, "thread\n")
		fourth := shown(t, program(t, "", want, "", want))
		if got != strings.Replace(fourth, "thread\n", "thread\n"+third, 1) {
			t.Errorf("%s, among threads: %q, want %q", x.what, got, want)
		}
	}
}

// N1, N2: what OpMove to OpSame make of numbers that are always the same.
func TestConstReckons(t *testing.T) {
	const most, least = "9223372036854775807", "-9223372036854775808"
	for _, x := range []struct{ b, c, order, result string }{
		{"7", "3", "move 3 1", "7"}, {"-7", "3", "move 3 2", "3"}, {"7", "3", "move 1 1", "7"}, {"7", "3", "move 3 4", "0"},
		{"7", "3", "add 3 1 2", "10"}, {"7", "3", "add 3 1 1", "14"}, {"7", "-3", "add 1 1 2", "4"}, {most, "1", "add 3 1 2", least}, {least, least, "add 3 1 2", "0"},
		{"7", "3", "sub 3 1 2", "4"}, {"7", "3", "sub 3 2 1", "-4"}, {"7", "3", "sub 2 1 1", "0"}, {least, "1", "sub 3 1 2", most}, {"0", least, "sub 3 1 2", least}, {"7", "3", "sub 3 0 2", "-3"},
		{"7", "3", "mul 3 1 2", "21"}, {"7", "-3", "mul 3 1 2", "-21"}, {"7", "3", "mul 3 1 0", "0"}, {most, "2", "mul 3 1 2", "-2"}, {least, "-1", "mul 3 1 2", least}, {"4294967296", "4294967296", "mul 3 1 2", "0"},
		{"7", "3", "less 3 1 2", "0"}, {"7", "3", "less 3 2 1", "1"}, {"7", "7", "less 3 1 2", "0"}, {least, most, "less 3 1 2", "1"}, {most, least, "less 3 1 2", "0"}, {"-1", "3", "less 3 0 1", "0"},
		{"7", "3", "same 3 1 2", "0"}, {"7", "7", "same 3 1 2", "1"}, {"0", "3", "same 3 1 0", "1"}, {least, least, "same 3 1 2", "1"}, {least, most, "same 3 1 2", "0"}, {"-1", "1", "same 3 1 2", "0"},
	} {
		ahead := "const 1 " + x.b + "; const 2 " + x.c + "; "
		to := strings.Fields(x.order)[1]
		play(t, opt.Const, []scene{{x.order, ahead + x.order + "; storeat 1 2", ahead + "const " + to + " " + x.result + "; storeat 1 2"}})
		// What it makes is known to the next one.
		play(t, opt.Const, []scene{{x.order + " and on", ahead + x.order + "; move 8 " + to, ahead + "const " + to + " " + x.result + "; const 8 " + x.result}})
	}
}

// N1, N2: what is known behind each other order, of what it writes and of what it does not.
func TestConstOfOtherOrders(t *testing.T) {
	for _, x := range []struct {
		order string
		any   int // the register that it makes any, or -1
	}{
		{"load 1 2", 1}, {"load 2 1", 2}, {"loadat 1 2", 1}, {"loadat 2 1", 2}, {"loadat 1 1", 1},
		{"cas 1 2 3", 2}, {"cas 2 1 3", 1}, {"cas 3 1 1", 1}, {"cas 0 0 1", 0},
		{"store 1 2", -1}, {"storeat 1 2", -1}, {"fence", -1}, {"print 1", -1}, {"lock 1", -1}, {"unlock 1", -1}, {"jump 4", -1},
	} {
		const ahead = "const 1 11; const 2 22; const 3 33; "
		for r, number := range []string{"0", "11", "22", "33"} {
			asks := fmt.Sprint("add 8 ", r, " 7")
			want := "const 8 " + number
			if r == x.any {
				want = asks
			}
			play(t, opt.Const, []scene{{x.order, ahead + x.order + "; " + asks, ahead + x.order + "; " + want}})
		}
	}
}

// N1: what is any stays any, whatever the other one is.
func TestConstOfAny(t *testing.T) {
	var list []scene
	for _, name := range []string{"add", "sub", "mul", "less", "same"} {
		for _, rest := range []string{" 2 1 0", " 2 0 1", " 2 1 1", " 1 1 1", " 1 0 1", " 0 1 0"} {
			list = append(list, scene{name + rest, "load 1 0; " + name + rest + "; print 2", ""})
		}
		list = append(list, scene{name + ", and what is made of that", "load 1 0; " + name + " 2 1 0; mul 3 2 0; same 4 2 2; print 3", ""})
	}
	play(t, opt.Const, append(list,
		scene{"move", "load 1 0; move 2 1; move 3 2; print 3", ""},
		scene{"move to itself", "load 1 0; move 1 1", ""},
		scene{"a move's C is no register", "load 0 0; move 2 1", "load 0 0; const 2 0"},
		scene{"a number again behind any", "load 1 0; const 1 4; move 2 1", "load 1 0; const 1 4; const 2 4"},
		scene{"nothing is known of a register by being asked for", "load 1 0; zero 1 3; fence; move 2 1", ""},
	))
}

// N1, N2: which orders go, and what becomes of OpZero.
func TestConstByWays(t *testing.T) {
	play(t, opt.Const, []scene{
		{"nothing", "", ""},
		{"nothing to be done", "const 1 1; print 1; load 2 0; zero 2 1; fence", ""},
		{"registers hold 0 at first", "zero 8 2; fence; print 8", "jump 1; print 8"},
		{"zero of 0 leads on to B", "const 1 0; zero 1 4; print 1; print 2; print 3", "const 1 0; jump 2; print 3"},
		{"zero of another number leads on to the next one", "const 1 3; zero 1 4; print 1; print 2; print 3", "const 1 3; print 1; print 2; print 3"},
		{"zero of a number below 0", "const 1 -1; zero 1 0; print 1", "const 1 -1; print 1"},
		{"zero of any", "load 1 0; zero 1 3; print 1; print 2", ""},
		{"zero of 0 to the next one", "zero 0 1; print 0", "jump 1; print 0"},
		{"zero of 0 to itself", "zero 0 0; print 0", "jump 0"},
		{"zero of 0 behind the last", "zero 0 2; print 0", "jump 1"},
		{"zero of 0 back", "print 0; zero 0 0; print 1", "print 0; jump 0"},
		{"zero of 0 as the last one", "fence; zero 0 2", "fence; jump 2"},
		{"zero of another number as the last one", "const 1 1; zero 1 0", "const 1 1"},
		{"who would go on at what is taken away goes on behind it", "load 0 0; const 1 1; zero 0 4; fence; zero 1 0; print 1", "load 0 0; const 1 1; zero 0 4; fence; print 1"},
		{"and that is behind the last, too", "load 0 0; const 1 1; zero 0 4; fence; zero 1 0", "load 0 0; const 1 1; zero 0 4; fence"},
		{"some in a row are taken away", "load 0 0; const 1 1; zero 0 5; fence; fence; zero 1 0; zero 1 1; zero 1 2; print 1; jump 7", "load 0 0; const 1 1; zero 0 5; fence; fence; print 1; jump 5"},
		{"nothing but what is taken away", "jump 1", ""},
		{"past a jump", "jump 3; print 1; zero 0 1; print 2", "jump 1; print 2"},
		{"past a jump behind the last", "jump 2; print 1", "jump 1"},
		{"a jump to itself", "jump 0; print 1", "jump 0"},
		{"a jump to the next one stays", "jump 1; print 1", ""},
		{"orders that go on in a ring without a way to them", "print 1; jump 4; print 2; jump 2; print 3", "print 1; jump 2; print 3"},
		{"ways backward", "jump 4; print 1; jump 6; jump 1; jump 3; print 5", "jump 4; print 1; jump 5; jump 1; jump 3"},
		{"what is not come to says nothing", "const 1 4; jump 3; const 1 5; move 2 1", "const 1 4; jump 2; const 2 4"},
		{"nor what is past a zero that never leads there", "const 1 4; zero 0 3; const 1 5; move 2 1", "const 1 4; jump 2; const 2 4"},
		{"a zero that becomes known by what a zero brings", "zero 0 2; const 1 1; zero 1 4; print 1; print 2", "jump 1; jump 2; print 2"},
	})
}

// N1: where ways come together.
func TestConstWhereWaysMeet(t *testing.T) {
	play(t, opt.Const, []scene{
		{"the same numbers", "load 0 0; zero 0 4; const 1 7; jump 5; const 1 7; move 2 1", "load 0 0; zero 0 4; const 1 7; jump 5; const 1 7; const 2 7"},
		{"the same numbers, made in unlike ways", "load 0 0; zero 0 4; const 1 7; jump 6; const 1 8; sub 1 1 2; const 3 1; move 2 1", "load 0 0; zero 0 4; const 1 7; jump 6; const 1 8; const 1 8; const 3 1; move 2 1"},
		{"unlike numbers", "load 0 0; zero 0 4; const 1 7; jump 5; const 1 8; move 2 1", ""},
		{"0 at first and another number", "load 0 0; zero 0 3; const 1 7; move 2 1", ""},
		{"0 at first and 0", "load 0 0; zero 0 3; const 1 0; move 2 1", "load 0 0; zero 0 3; const 1 0; const 2 0"},
		{"any and a number", "load 0 0; zero 0 4; load 1 0; jump 5; const 1 8; move 2 1", ""},
		{"a number and any", "load 0 0; zero 0 4; const 1 8; jump 5; load 1 0; move 2 1", ""},
		{"any and any", "load 0 0; zero 0 4; load 1 0; jump 5; load 1 1; move 2 1", ""},
		{"a number that comes out the same of unlike ones", "load 0 0; zero 0 4; const 1 7; jump 5; const 1 8; sub 1 1 1; move 2 1", ""},
		{"others stay known", "load 0 0; const 3 9; zero 0 5; const 1 7; jump 6; const 1 8; add 2 3 4", "load 0 0; const 3 9; zero 0 5; const 1 7; jump 6; const 1 8; const 2 9"},
		{"three ways", "load 0 0; zero 0 6; zero 0 4; const 1 7; zero 0 6; const 1 7; move 2 1", ""},
		{"a zero of what is 0 on both ways", "load 0 0; zero 0 3; const 1 0; zero 1 5; print 1; print 2", "load 0 0; zero 0 3; const 1 0; jump 4; print 2"},
		{"a zero to the next one: both ways bring the same", "load 0 0; const 1 3; zero 0 3; move 2 1", "load 0 0; const 1 3; zero 0 3; const 2 3"},
	})
}

// N1: the least of all: in a ring nothing is any that could be always one number.
func TestConstInRings(t *testing.T) {
	play(t, opt.Const, []scene{
		{"order 0 is come to again with 0", "print 0; move 1 0; jump 0", "print 0; const 1 0; jump 0"},
		{"order 0 is come to again with another number", "move 1 0; const 0 5; jump 0", ""},
		{"order 0 is come to again with the same", "add 0 0 0; jump 0", "const 0 0; jump 0"},
		{"counted on", "const 0 1; add 1 1 0; jump 1", ""},
		{"set to the same each time", "const 0 5; load 1 0; zero 1 6; move 2 0; const 0 5; jump 1; add 3 0 2", "const 0 5; load 1 0; zero 1 6; const 2 5; const 0 5; jump 1; add 3 0 2"},
		{"handed round", "const 0 5; load 1 0; zero 1 6; move 2 0; move 0 2; jump 1; move 3 0", "const 0 5; load 1 0; zero 1 6; const 2 5; const 0 5; jump 1; const 3 5"},
		{"two that are handed round", "const 0 5; const 1 6; move 2 0; move 0 1; move 1 2; jump 2", ""},
		{"two of the same number that are handed round", "const 0 5; const 1 5; move 2 0; move 0 1; move 1 2; jump 2", "const 0 5; const 1 5; const 2 5; const 0 5; const 1 5; jump 2"},
		{"what would spoil it never goes", "const 0 0; zero 0 3; const 0 1; print 0; jump 1", "const 0 0; jump 2; print 0; jump 1"},
		{"what would spoil it goes, as another thing spoils it", "load 1 0; zero 0 4; const 0 1; print 1; print 0; move 0 1; jump 1", ""},
		{"any comes late, and by the way back alone", "move 2 1; print 2; move 1 0; load 0 0; jump 0", ""},
		{"a ring that is left never", "zero 0 0; load 0 0; zero 0 0", "jump 0"},
		{"a ring in a ring", "const 1 3; load 0 0; zero 0 7; load 0 1; zero 0 1; move 2 1; jump 3; move 3 2", "const 1 3; load 0 0; zero 0 7; load 0 1; zero 0 1; const 2 3; jump 3; move 3 2"},
		{"a zero in a ring leads both ways once its register is any", "zero 1 3; print 1; jump 4; load 1 0; fence; jump 0", ""},
		{"a zero in a ring, with a number the second time", "zero 1 3; print 1; jump 0; const 1 1; const 2 4; move 3 2; jump 0", "zero 1 3; print 1; jump 0; const 1 1; const 2 4; const 3 4; jump 0"},
	})
}

// N3: each order is taken away or stays, where what it writes is not live behind it.
func TestDeadByOrder(t *testing.T) {
	for _, x := range []struct {
		order  string
		writes int // -1: it stays, whatever is needed
	}{
		{"const 1 2", 1}, {"const 2 1", 2}, {"const 0 0", 0}, {"move 1 2", 1}, {"move 2 1", 2}, {"move 1 1", 1},
		{"add 1 2 3", 1}, {"sub 2 1 3", 2}, {"mul 3 1 2", 3}, {"less 1 2 3", 1}, {"same 1 2 3", 1}, {"add 1 1 1", 1},
		{"load 1 2", 1}, {"load 2 1", 2},
		{"loadat 1 2", -1}, {"cas 1 2 3", -1}, {"store 1 2", -1}, {"storeat 1 2", -1}, {"fence", -1}, {"print 1", -1}, {"lock 1", -1}, {"unlock 1", -1},
		{"jump 1", -1}, {"zero 1 1", -1},
	} {
		want := "none"
		if x.writes < 0 {
			want = ""
		}
		play(t, opt.Dead, []scene{{x.order, x.order, want}})
		for r := range 4 {
			needed := fmt.Sprint("print ", r)
			want := needed
			if x.writes < 0 || x.writes == r {
				want = ""
			}
			play(t, opt.Dead, []scene{{x.order, x.order + "; " + needed, want}})
		}
	}
}

// N3: at once, and live as chapter 13 says.
func TestDead(t *testing.T) {
	play(t, opt.Dead, []scene{
		{"nothing", "", ""},
		{"nothing to be done", "const 1 1; load 2 0; add 3 1 2; print 3", ""},
		{"at once: what a dead order reads stays", "const 0 1; move 1 0; move 2 1; print 0", "const 0 1; move 1 0; print 0"},
		{"at once, of loads", "load 0 1; add 1 0 0; fence", "load 0 1; fence"},
		{"written again ahead of being read", "const 1 1; const 1 2; print 1", "const 1 2; print 1"},
		{"read as it is written again", "const 1 1; add 1 1 1; print 1", ""},
		{"read by a loadat, cas, store, storeat, zero", "const 1 1; loadat 1 1; const 2 2; const 3 3; cas 0 2 3; const 4 4; store 0 4; const 5 5; const 6 6; storeat 5 6; const 7 7; zero 7 12", ""},
		{"a cas's word and a load's are no registers", "const 0 1; cas 0 1 2; load 0 0; fence", "cas 0 1 2; fence"},
		{"needed on one way", "const 1 1; zero 0 3; print 1; fence", ""},
		{"needed on the other way", "const 1 1; zero 0 3; fence; print 1", ""},
		{"needed on none", "const 1 1; zero 0 3; const 1 2; const 1 3; print 1", "zero 0 1; const 1 3; print 1"},
		{"needed on the way back", "print 1; const 1 1; jump 0", ""},
		{"needed by itself alone", "add 1 1 1; jump 0", ""},
		{"not needed in a ring", "const 1 1; load 2 0; jump 0", "jump 0"},
		{"read behind a jump that leads past it", "const 1 1; jump 3; print 1; fence", "jump 2; print 1; fence"},
		{"to which no way comes", "jump 3; const 1 1; const 2 1; print 2", "jump 2; const 2 1; print 2"},
		{"needed where no way comes", "jump 4; const 1 1; print 1; fence; fence", ""},
		{"who would go on there goes on behind it", "zero 0 2; print 0; const 1 1; print 2; jump 2", "zero 0 2; print 0; print 2; jump 2"},
		{"and that is behind the last, too", "zero 0 2; print 0; const 1 1", "zero 0 2; print 0"},
		{"and that is behind some", "zero 0 2; print 0; const 1 1; const 2 2; load 3 3; print 4", "zero 0 2; print 0; print 4"},
		{"who goes on behind the last does so", "const 1 1; zero 0 4; print 0; const 1 1", "zero 0 2; print 0"},
		{"all orders", "const 1 1; load 2 0; move 3 4", "none"},
		{"a jump to what is taken away ahead of it", "const 1 1; print 0; jump 0", "print 0; jump 0"},
		{"the last one", "print 0; const 0 1", "print 0"},
		{"numbers of all kinds stay", "const 1 -9223372036854775808; print 1", ""},
	})
}

// N1 to N3: one after the other.
func TestBoth(t *testing.T) {
	p := program(t, "const 0 1; const 1 2; const 2 3; mul 1 1 2; add 0 0 1; store 0 0")
	if got, want := shown(t, done(t, opt.Dead, done(t, opt.Const, p))), shown(t, program(t, "const 0 7; store 0 0")); got != want {
		t.Error(got, want)
	}
}

// N2, N3: what is no thread's order stays as it is.
func TestRestStays(t *testing.T) {
	for i, by := range []face{opt.Const, opt.Dead} {
		p := api.Program{Code: make([][]api.Instr, 3), Words: []int{4, -1, math.MinInt}, Locks: 3, Regs: 77}
		if q := done(t, by, p); shown(t, q) != shown(t, p) {
			t.Error(i, q)
		}
		p = api.Program{Code: make([][]api.Instr, 1), Regs: 1}
		if q := done(t, by, p); len(q.Code) != 1 || len(q.Code[0]) != 0 || len(q.Words) != 0 || q.Locks != 0 || q.Regs != 1 {
			t.Error(i, q)
		}
	}
}

// ring has as many registers and orders as there may be: any goes one register further each time round.
func ring() []api.Instr {
	var code []api.Instr
	for r := range api.MaxRegs - 1 {
		code = append(code, api.Instr{Op: api.OpMove, A: r, B: r + 1})
	}
	code = append(code, api.Instr{Op: api.OpLoad, A: api.MaxRegs - 1})
	for at := len(code); at < api.MaxCode-1; at++ {
		code = append(code, api.Instr{Op: api.OpZero, A: at % api.MaxRegs})
	}
	return append(code, api.Instr{Op: api.OpJump})
}

// N1 to N3: threads with as much in them as may be.
func TestGreatest(t *testing.T) {
	p := api.Program{Code: slices.Repeat([][]api.Instr{ring()}, api.MaxThreads), Words: make([]int, api.MaxWords), Regs: api.MaxRegs}
	for i, by := range []face{opt.Const, opt.Dead} {
		if q := done(t, by, p); shown(t, q) != shown(t, p) {
			t.Error("changed:", i)
		}
	}
	code := slices.Clone(p.Code[1])
	for at := range api.MaxRegs - 1 {
		code[at].B = at
	}
	p.Code[1] = code
	q := done(t, opt.Const, p)
	for at := range api.MaxRegs - 1 {
		if q.Code[1][at] != (api.Instr{Op: api.OpConst, A: at}) {
			t.Fatal(at, q.Code[1][at])
		}
	}
	// Behind the load register 0 is asked for, which is 0: nothing else is come to.
	if want := []api.Instr{code[api.MaxRegs-1], {Op: api.OpJump}}; !slices.Equal(q.Code[1][api.MaxRegs-1:], want) {
		t.Error(q.Code[1][api.MaxRegs-1:])
	}
	if !slices.Equal(q.Code[0], p.Code[0]) || !slices.Equal(q.Code[2], p.Code[2]) {
		t.Error("changed:", q.Code[0], q.Code[2])
	}
}

// N1 to N3: each register by itself.
func TestEachRegister(t *testing.T) {
	for r := range api.MaxRegs {
		other := (r + 1) % api.MaxRegs
		code := []api.Instr{{Op: api.OpConst, A: r, B: 4}, {Op: api.OpLoad, A: other}, {Op: api.OpMove, A: other, B: r}, {Op: api.OpPrint, A: other}}
		p := api.Program{Code: [][]api.Instr{code}, Words: []int{0}, Regs: api.MaxRegs}
		q := done(t, opt.Const, p)
		if want := (api.Instr{Op: api.OpConst, A: other, B: 4}); len(q.Code[0]) != 4 || q.Code[0][2] != want {
			t.Error(r, q.Code)
		}
		if q = done(t, opt.Dead, q); !slices.Equal(q.Code[0], []api.Instr{{Op: api.OpConst, A: other, B: 4}, code[3]}) {
			t.Error(r, q.Code)
		}
	}
}

// P2: Check's fault comes first, and all else is zero then.
func TestRefuses(t *testing.T) {
	code := []api.Instr{{Op: api.OpConst}, {Op: api.OpPrint}}
	long := slices.Repeat(code, api.MaxCode/2)
	for _, p := range []api.Program{
		{},
		{Regs: 1},
		{Code: [][]api.Instr{code, code, code, code, code}, Regs: 1},
		{Code: [][]api.Instr{code}, Words: make([]int, api.MaxWords+1), Regs: 1},
		{Code: [][]api.Instr{code}},
		{Code: [][]api.Instr{code}, Regs: -1},
		{Code: [][]api.Instr{code}, Regs: api.MaxRegs + 1},
		{Code: [][]api.Instr{code}, Regs: math.MaxInt},
		{Code: [][]api.Instr{code}, Regs: math.MinInt},
		{Code: [][]api.Instr{code}, Locks: -1, Regs: 1},
		{Code: [][]api.Instr{code}, Locks: api.MaxLocks + 1, Regs: 1},
		{Code: [][]api.Instr{long, append(slices.Clone(long), api.Instr{})}, Regs: 1},
		// Also what would be taken away has to be right.
		{Code: [][]api.Instr{{{Op: api.OpJump, A: 2}, {}}}, Regs: 1},
		{Code: [][]api.Instr{{{Op: api.OpJump, A: 2}, {Op: api.OpPrint, A: 1}}}, Regs: 1},
		{Code: [][]api.Instr{append(slices.Clone(long), api.Instr{Op: api.OpConst})}, Regs: 1},
		{Code: [][]api.Instr{long, {{Op: api.OpFence}, {Op: 0}}}, Regs: 1},
		{Code: [][]api.Instr{code, {{Op: 19}}}, Regs: 1},
		{Code: [][]api.Instr{code, {{Op: math.MinInt}}}, Regs: 1},
		{Code: [][]api.Instr{code, {{Op: math.MaxInt}}}, Regs: 1},
		{Code: [][]api.Instr{code, {{Op: api.OpPrint, A: -1}}}, Regs: 1},
		{Code: [][]api.Instr{code, {{Op: api.OpConst, A: api.MaxRegs}}}, Regs: api.MaxRegs},
		{Code: [][]api.Instr{code, {{Op: api.OpMove, C: 1}}}, Regs: 2},
		{Code: [][]api.Instr{code, {{Op: api.OpAdd, B: math.MaxInt}}}, Regs: 2},
		{Code: [][]api.Instr{code, {{Op: api.OpLoad}}}, Regs: 1},
		{Code: [][]api.Instr{code, {{Op: api.OpCas, C: 1}}}, Words: []int{0}, Regs: 1},
		{Code: [][]api.Instr{code, {{Op: api.OpJump, A: 2}}}, Regs: 1},
		{Code: [][]api.Instr{code, {{Op: api.OpJump, A: -1}}}, Regs: 1},
		{Code: [][]api.Instr{code, {{Op: api.OpZero, B: math.MaxInt}}}, Regs: 1},
		{Code: [][]api.Instr{code, {{Op: api.OpUnlock}}}, Regs: 1},
	} {
		wrong := asm.Check(p)
		if wrong.Code == api.OK {
			t.Fatal("may be:", p)
		}
		for i, by := range []face{opt.Const, opt.Dead} {
			if q, f := by(p); f != wrong || len(q.Code) > 0 || len(q.Words) > 0 || q.Locks != 0 || q.Regs != 0 {
				t.Error(i, p, q, f, wrong)
			}
		}
	}
}

// given is a program with something behind the length of each of its lists.
func given(t *testing.T) api.Program {
	t.Helper()
	p := program(t, "const 1 1; const 2 1; storeat 1 2; zero 2 0; print 3; const 5 5", "load 3 1; load 4 1; cas 1 3 4; storeat 3 4", "zero 1 2; print 1; fence", "")
	p.Words = append(p.Words, 7, 8)[:9]
	for i := range p.Code {
		n := len(p.Code[i])
		p.Code[i] = append(p.Code[i], api.Instr{Op: 99}, api.Instr{Op: api.OpPrint})[:n]
	}
	p.Code = append(p.Code, []api.Instr{{Op: 99}})[:4]
	return p
}

// whole is all that lies in a program's lists, what is behind their lengths as well.
func whole(p api.Program) string {
	text := fmt.Sprint(p.Words[:cap(p.Words)], p.Locks, p.Regs)
	for _, code := range p.Code[:cap(p.Code)] {
		text += fmt.Sprint(code[:cap(code)], len(code))
	}
	return text
}

// spoil writes over all of a list, what is behind its length as well.
func spoil[T any](list []T, by T) {
	list = list[:cap(list)]
	for i := range list {
		list[i] = by
	}
}

// P3: nothing that is given is changed or kept, nothing behind a list's length is read or touched, and each list that is answered is of its own.
func TestNothingShared(t *testing.T) {
	for i, by := range []face{opt.Const, opt.Dead} {
		p := given(t)
		before := whole(p)
		got, again := done(t, by, p), done(t, by, p)
		want := shown(t, again)
		if shown(t, got) != want || whole(p) != before {
			t.Fatal(i, got, again, p)
		}
		spoil(got.Words, -9)
		for thread := range got.Code {
			if !slices.Equal(got.Code[thread], again.Code[thread]) {
				t.Error(i, "shared:", thread)
			}
			spoil(got.Code[thread], api.Instr{Op: -9})
		}
		spoil(got.Code, nil)
		if whole(p) != before || shown(t, again) != want || shown(t, done(t, by, p)) != want {
			t.Error(i, "changed or kept:", p)
		}
	}
}
