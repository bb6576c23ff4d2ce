package rtl_test

import (
	"fmt"
	"reflect"
	"slices"
	"strconv"
	"strings"
	"testing"

	"sluice/api"
	"sluice/asm"
	"sluice/check"
	"sluice/rtl"
	"sluice/syntax"
)

// made is what comes of a text that may be; it is a program that may be, too.
func made(t *testing.T, text string) api.Program {
	t.Helper()
	p, f := rtl.Make(text)
	if f != (api.Fault{}) {
		t.Fatalf("%q: %v", text, f)
	}
	if f := asm.Check(p); f != (api.Fault{}) {
		t.Fatalf("%q: %v: %v", text, p, f)
	}
	return p
}

// orders tells a thread's orders as a text, parted by "; ".
func orders(t *testing.T, code []api.Instr) string {
	t.Helper()
	p := api.Program{Code: [][]api.Instr{code}, Words: make([]int, api.MaxWords), Locks: api.MaxLocks, Regs: api.MaxRegs}
	text, f := asm.Text(p)
	if f != (api.Fault{}) {
		t.Fatalf("%v: %v", code, f)
	}
	_, text, _ = strings.Cut(text, "thread\n")
	return strings.ReplaceAll(strings.TrimSuffix(text, "\n"), "\n", "; ")
}

// becomes holds the orders of a single thread, and the registers.
func becomes(t *testing.T, text string, regs int, want string) {
	t.Helper()
	p := made(t, text)
	if got := orders(t, p.Code[0]); len(p.Code) != 1 || p.Regs != regs || got != want {
		t.Errorf("%q: %d threads, %d registers: %s\nwant %d: %s", text, len(p.Code), p.Regs, got, regs, want)
	}
}

// refused holds the fault of a text, beside which nothing is told.
func refused(t *testing.T, text string, want api.Fault) {
	t.Helper()
	if p, f := rtl.Make(text); f != want || len(p.Code)+len(p.Words)+p.Locks+p.Regs != 0 {
		t.Errorf("%q: %v %v, want %v", text, p, f, want)
	}
}

func full(t *testing.T, text string) {
	t.Helper()
	refused(t, text, api.Fault{Code: api.ErrFull})
}

// L1: the chapter's example, and those of the whole document.
func TestExamples(t *testing.T) {
	becomes(t, "int x;thread{int a=x;print(a+1);}", 3, "load 1 0; move 0 1; move 1 0; const 2 1; add 1 1 2; print 1")
	becomes(t, "int x;thread{x=1+2*3;}", 3, "const 0 1; const 1 2; const 2 3; mul 1 1 2; add 0 0 1; store 0 0")
	becomes(t, "thread{}", 1, "")
	refused(t, "int x;", api.Fault{Code: api.ErrSize})
}

// L1: each row of the table of expressions, in a thread with two locals, so that v is 2.
func TestExpressions(t *testing.T) {
	const ahead = "const 2 1; move 0 2; const 2 2; move 1 2; " // four orders
	for _, x := range []struct {
		text string
		regs int
		want string
	}{
		{"7", 3, "const 2 7"},
		{"0", 3, "const 2 0"},
		{"999999999", 3, "const 2 999999999"},
		{"(7)", 3, "const 2 7"},
		{"a", 3, "move 2 0"},
		{"b", 3, "move 2 1"},
		{"x", 3, "load 2 0"},
		{"y", 3, "load 2 1"},
		{"-a", 4, "move 2 0; const 3 0; sub 2 3 2"},
		{"-7", 4, "const 2 7; const 3 0; sub 2 3 2"},
		{"!y", 4, "load 2 1; const 3 0; same 2 2 3"},
		{"--a", 4, "move 2 0; const 3 0; sub 2 3 2; const 3 0; sub 2 3 2"},
		{"!-a", 4, "move 2 0; const 3 0; sub 2 3 2; const 3 0; same 2 2 3"},
		{"a+b", 4, "move 2 0; move 3 1; add 2 2 3"},
		{"a-x", 4, "move 2 0; load 3 0; sub 2 2 3"},
		{"x*a", 4, "load 2 0; move 3 0; mul 2 2 3"},
		{"a<b", 4, "move 2 0; move 3 1; less 2 2 3"},
		{"a==b", 4, "move 2 0; move 3 1; same 2 2 3"},
		{"a>b", 4, "move 2 0; move 3 1; less 2 3 2"},
		{"a<=b", 4, "move 2 0; move 3 1; less 2 3 2; const 3 0; same 2 2 3"},
		{"a>=b", 4, "move 2 0; move 3 1; less 2 2 3; const 3 0; same 2 2 3"},
		{"a!=b", 4, "move 2 0; move 3 1; same 2 2 3; const 3 0; same 2 2 3"},
		{"x&&b", 3, "load 2 0; zero 2 10; move 2 1; zero 2 10; const 2 1; jump 11; const 2 0"},
		{"x||b", 3, "load 2 0; zero 2 8; const 2 1; jump 13; move 2 1; zero 2 12; const 2 1; jump 13; const 2 0"},
		{"1-2-3", 4, "const 2 1; const 3 2; sub 2 2 3; const 3 3; sub 2 2 3"},
		{"1-(2-3)", 5, "const 2 1; const 3 2; const 4 3; sub 3 3 4; sub 2 2 3"},
		{"1-(2-(3-a))", 6, "const 2 1; const 3 2; const 4 3; move 5 0; sub 4 4 5; sub 3 3 4; sub 2 2 3"},
		{"a+-b", 5, "move 2 0; move 3 1; const 4 0; sub 3 4 3; add 2 2 3"},
		{"-a+b", 4, "move 2 0; const 3 0; sub 2 3 2; move 3 1; add 2 2 3"},
		{"a+!b", 5, "move 2 0; move 3 1; const 4 0; same 3 3 4; add 2 2 3"},
		{"a>(b>x)", 5, "move 2 0; move 3 1; load 4 0; less 3 4 3; less 2 3 2"},
		{"a!=(b<=x)", 5, "move 2 0; move 3 1; load 4 0; less 3 4 3; const 4 0; same 3 3 4; same 2 2 3; const 3 0; same 2 2 3"},
		{"a*(x&&b)", 4, "move 2 0; load 3 0; zero 3 11; move 3 1; zero 3 11; const 3 1; jump 12; const 3 0; mul 2 2 3"},
		{"a*(x||b)", 4, "move 2 0; load 3 0; zero 3 9; const 3 1; jump 14; move 3 1; zero 3 13; const 3 1; jump 14; const 3 0; mul 2 2 3"},
		{"x&&a+b", 4, "load 2 0; zero 2 12; move 2 0; move 3 1; add 2 2 3; zero 2 12; const 2 1; jump 13; const 2 0"},
		{"a&&b&&x", 3, "move 2 0; zero 2 10; move 2 1; zero 2 10; const 2 1; jump 11; const 2 0; zero 2 16; load 2 0; zero 2 16; const 2 1; jump 17; const 2 0"},
		{"a&&(b||x)", 3, "move 2 0; zero 2 18; move 2 1; zero 2 10; const 2 1; jump 15; load 2 0; zero 2 14; const 2 1; jump 15; const 2 0; zero 2 18; const 2 1; jump 19; const 2 0"},
		{"!(a&&b)", 4, "move 2 0; zero 2 10; move 2 1; zero 2 10; const 2 1; jump 11; const 2 0; const 3 0; same 2 2 3"},
	} {
		becomes(t, "int x;int y;thread{int a=1;int b=2;print("+x.text+");}", x.regs, ahead+x.want+"; print 2")
	}
}

// L1: each row of the table of statements.
func TestStatements(t *testing.T) {
	for _, x := range []struct {
		text string
		regs int
		want string
	}{
		{"int b=7;", 3, "const 2 7; move 1 2"},
		{"int x=x;x=x;", 3, "load 2 0; move 1 2; move 2 1; move 1 2"},
		{"a=x;", 2, "load 1 0; move 0 1"},
		{"a=a;", 2, "move 1 0; move 0 1"},
		{"x=a;", 2, "move 1 0; store 0 1"},
		{"y=x;", 2, "load 1 0; store 1 1"},
		{"a=cas(y,x,a);", 3, "load 1 0; move 2 0; cas 1 1 2; move 0 1"},
		{"x=cas(y,3,4);", 3, "const 1 3; const 2 4; cas 1 1 2; store 0 1"},
		{"y=cas(x,1+2,-4);", 4, "const 1 1; const 2 2; add 1 1 2; const 2 4; const 3 0; sub 2 3 2; cas 0 1 2; store 1 1"},
		{"x=cas(x,1+(2+3),4);", 4, "const 1 1; const 2 2; const 3 3; add 2 2 3; add 1 1 2; const 2 4; cas 0 1 2; store 0 1"},
		{"if(a){}", 2, "move 1 0; zero 1 4"},
		{"if(a){fence;}", 2, "move 1 0; zero 1 5; fence"},
		{"if(a){fence;}fence;", 2, "move 1 0; zero 1 5; fence; fence"},
		{"if(a){}else{}", 2, "move 1 0; zero 1 5; jump 5"},
		{"if(a){fence;}else{}", 2, "move 1 0; zero 1 6; fence; jump 6"},
		{"if(a){fence;}else{fence;lock(m);}print(1);", 2, "move 1 0; zero 1 6; fence; jump 8; fence; lock 0; const 1 1; print 1"},
		{"if(a){}else{fence;}", 2, "move 1 0; zero 1 5; jump 6; fence"},
		{"if(a){if(x){}else{fence;}}else{fence;}", 2, "move 1 0; zero 1 9; load 1 0; zero 1 7; jump 8; fence; jump 10; fence"},
		{"if(a&&x){fence;}", 2, "move 1 0; zero 1 8; load 1 0; zero 1 8; const 1 1; jump 9; const 1 0; zero 1 11; fence"},
		{"while(a){}", 2, "move 1 0; zero 1 5; jump 2"},
		{"while(a){fence;}fence;", 2, "move 1 0; zero 1 6; fence; jump 2; fence"},
		{"while(x<a){while(y){}}", 3, "load 1 0; move 2 0; less 1 1 2; zero 1 10; load 1 1; zero 1 9; jump 6; jump 2"},
		{"while(a){if(x){fence;}}", 2, "move 1 0; zero 1 8; load 1 0; zero 1 7; fence; jump 2"},
		{"fence;while(a||x){fence;}", 2, "fence; move 1 0; zero 1 7; const 1 1; jump 12; load 1 0; zero 1 11; const 1 1; jump 12; const 1 0; zero 1 15; fence; jump 3"},
		{"print(a);", 2, "move 1 0; print 1"},
		{"print(a+x);", 3, "move 1 0; load 2 0; add 1 1 2; print 1"},
		{"lock(m);", 2, "lock 0"},
		{"lock(n);unlock(n);", 2, "lock 1; unlock 1"},
		{"unlock(m);", 2, "unlock 0"},
		{"fence;", 2, "fence"},
		{"fence;fence;", 2, "fence; fence"},
	} {
		// Each local of the thread counts, so that the one ahead is set from v, whatever that is.
		v := strconv.Itoa(1 + strings.Count(x.text, "int "))
		ahead := "const " + v + " 1; move 0 " + v + "; "
		becomes(t, "int x;int y;lock m;lock n;thread{int a=1;"+x.text+"}", x.regs, ahead+x.want)
	}
}

// L1: registers of locals, as they stand in the thread, whatever block they are in; each thread by itself.
func TestLocals(t *testing.T) {
	becomes(t, "thread{int a=1;if(a){int a=2;print(a);}else{int b=a;}int c=a;while(c){int a=c;}}", 6,
		"const 5 1; move 0 5; move 5 0; zero 5 9; const 5 2; move 1 5; move 5 1; print 5; jump 11; move 5 0; move 2 5; move 5 0; move 3 5; move 5 3; zero 5 18; move 5 3; move 4 5; jump 13")
	becomes(t, "int x;thread{if(x){int x=x;x=x;}x=x;}", 2, "load 1 0; zero 1 6; load 1 0; move 0 1; move 1 0; move 0 1; load 1 0; store 0 1")
	becomes(t, "thread{if(1){int a=1;print(a);}if(1){int a=2;print(a);}}", 3,
		"const 2 1; zero 2 6; const 2 1; move 0 2; move 2 0; print 2; const 2 1; zero 2 12; const 2 2; move 1 2; move 2 1; print 2")
	becomes(t, "int x;thread{while(x){int a=1;}int b=2;print(b);}", 3, "load 2 0; zero 2 5; const 2 1; move 0 2; jump 0; const 2 2; move 1 2; move 2 1; print 2")
	p := made(t, "int x;thread{int a=1;int b=a;}thread{}thread{int b=x;print(b);}thread{print(x);}")
	for i, want := range []string{"const 2 1; move 0 2; move 2 0; move 1 2", "", "load 1 0; move 0 1; move 1 0; print 1", "load 0 0; print 0"} {
		if got := orders(t, p.Code[i]); got != want {
			t.Errorf("thread %d: %s, want %s", i, got, want)
		}
	}
	if p.Regs != 3 {
		t.Error(p.Regs, "registers, want 3")
	}
}

// L1: words, locks and how many threads there are; globals and locks may stand among each other.
func TestHead(t *testing.T) {
	p := made(t, "int x=5;lock m;int y;lock n;int z=-6;lock o;thread{z=1;lock(o);}thread{y=2;lock(n);}thread{x=3;unlock(m);}")
	if !slices.Equal(p.Words, []int{5, 0, -6}) || p.Locks != 3 || p.Regs != 1 || len(p.Code) != 3 {
		t.Error(p)
	}
	for i, want := range []string{"const 0 1; store 2 0; lock 2", "const 0 2; store 1 0; lock 1", "const 0 3; store 0 0; unlock 0"} {
		if got := orders(t, p.Code[i]); got != want {
			t.Errorf("thread %d: %s, want %s", i, got, want)
		}
	}
	p = made(t, "thread{}")
	if len(p.Words) != 0 || p.Locks != 0 || p.Regs != 1 || len(p.Code) != 1 || len(p.Code[0]) != 0 {
		t.Error(p)
	}
	text := ""
	for i := range 16 {
		text += "int x" + strconv.Itoa(i) + "=" + strconv.Itoa(i*7-3) + ";"
	}
	p = made(t, text+"lock a;lock b;lock c;lock d;"+strings.Repeat("thread{x15=x14;unlock(d);}", 4))
	if len(p.Words) != 16 || p.Words[0] != -3 || p.Words[15] != 102 || p.Locks != 4 || len(p.Code) != 4 {
		t.Error(p)
	}
	for _, code := range p.Code {
		if got := orders(t, code); got != "load 0 14; store 15 0; unlock 3" {
			t.Error(got)
		}
	}
}

// L1: a register is one that an order has: numbers, words, locks and places are none.
func TestRegs(t *testing.T) {
	for _, x := range []struct {
		text string
		regs int
	}{
		{"", 1}, {"fence;", 1}, {"lock(n);unlock(n);", 1}, {"print(999999999);", 1}, {"y=y;", 1}, {"while(y){fence;fence;}", 1}, {"print(1&&2&&3);", 1}, {"print(1||2||3);", 1},
		{"print(-1);", 2}, {"print(!1);", 2}, {"print(1+1);", 2}, {"print(1+1+1+1);", 2}, {"x=cas(y,1,1);", 2}, {"x=cas(y,1+1,1);", 2}, {"x=cas(y,1,1+1);", 3},
		{"int a=1;", 2}, {"int a=1;int b=1;", 3}, {"int a=1;int b=1+1;", 4}, {"if(0){int a=1;}", 2}, {"print(1+1*1);", 3}, {"print(1==1+1*1);", 4}, {"print(1||1&&1==1+1*1);", 4},
		{"print(1*(1+(1==(1||1))));", 4}, {"print(-(1+(1+1)));", 3}, {"print(1+(1+-1));", 4},
	} {
		for _, threads := range []string{"thread{" + x.text + "}", "thread{}thread{" + x.text + "}thread{}", "thread{fence;}thread{}thread{}thread{" + x.text + "}"} {
			if p := made(t, "int x;int y;lock m;lock n;"+threads); p.Regs != x.regs {
				t.Errorf("%q: %d registers, want %d", threads, p.Regs, x.regs)
			}
		}
	}
}

// locals makes so many of them, the last one of this expression, the others of a number.
func locals(n int, last string) string {
	var text strings.Builder
	for i := range n - 1 {
		text.WriteString("int a" + strconv.Itoa(i) + "=1;")
	}
	return text.String() + "int z=" + last + ";"
}

// right is a sum of so many more numbers than one, each within the one ahead.
func right(n int) string {
	return strings.Repeat("1+(", n-1) + "1+1" + strings.Repeat(")", n-1)
}

// among are programs that have this thread at some place.
func among(thread string) []string {
	const empty = "thread{}"
	return []string{thread, empty + thread, thread + empty + empty, empty + empty + empty + thread}
}

// L2: MaxRegs registers may be, one more may not, though no thread is too long.
func TestTooManyRegisters(t *testing.T) {
	for _, x := range []struct {
		last string
		most int // locals
		long int // orders then
	}{
		{"1", 199, 398}, {"-1", 198, 398}, {"!1", 198, 398}, {"1+1", 198, 398}, {"1+1+1", 198, 400}, {"1+1*1", 197, 398}, {"1<1", 198, 398}, {"1>=1", 198, 400},
		{right(3), 196, 398}, {right(10), 189, 398}, {right(20), 179, 398}, {"1==1+1*(1==1+1*(1+1))", 192, 398},
	} {
		for _, whole := range among("thread{" + locals(x.most, x.last) + "}") {
			p := made(t, whole)
			longest := slices.MaxFunc(p.Code, func(a, b []api.Instr) int { return len(a) - len(b) })
			if p.Regs != 200 || len(longest) != x.long {
				t.Errorf("%q: %d registers, %d orders", x.last, p.Regs, len(longest))
			}
		}
		for _, whole := range among("thread{" + locals(x.most+1, x.last) + "}") {
			if _, _, longest := making(whole); x.long == 398 && longest != 400 {
				t.Errorf("%q: %d orders", x.last, longest)
			}
			full(t, whole)
		}
	}
	// Registers are those of the thread that has the most of them, not all together.
	text := "thread{" + locals(100, right(10)) + "}"
	if p := made(t, text+text); p.Regs != 111 {
		t.Error(p.Regs)
	}
	// What is never done counts as well.
	full(t, "thread{if(0){"+locals(198, "1+(1+1)")+"}}")
	full(t, "thread{"+locals(298, "1")+"}")
}

// L2: MaxCode orders of a thread may be, one more may not, by each kind of statement and expression.
func TestTooLong(t *testing.T) {
	for _, x := range []struct {
		text   string
		orders int
	}{
		{"", 0}, {"fence;", 1}, {"lock(m);", 1}, {"unlock(m);", 1}, {"print(1);", 2}, {"print(x);", 2}, {"x=1;", 2}, {"int a=1;", 2}, {"int a=1;a=a;", 4}, {"x=cas(x,1,2);", 4},
		{"if(x){}", 2}, {"if(x){}else{}", 3}, {"if(x){fence;}else{fence;}", 5}, {"while(x){}", 3}, {"while(x){fence;}", 4},
		{"print(-x);", 4}, {"print(!x);", 4}, {"print(x+x);", 4}, {"print(x-x);", 4}, {"print(x*x);", 4}, {"print(x<x);", 4}, {"print(x==x);", 4}, {"print(x>x);", 4},
		{"print(x<=x);", 6}, {"print(x>=x);", 6}, {"print(x!=x);", 6}, {"print(x&&x);", 8}, {"print(x||x);", 10}, {"print((((x))));", 2},
	} {
		for _, ahead := range []string{"", "thread{}", "thread{fence;}thread{}thread{}"} {
			head := "int x;lock m;" + ahead + "thread{"
			most := made(t, head+strings.Repeat("fence;", 400-x.orders)+x.text+"}")
			if last := most.Code[len(most.Code)-1]; len(last) != 400 {
				t.Errorf("%q: %d orders", x.text, len(last))
			}
			made(t, head+x.text+strings.Repeat("fence;", 400-x.orders)+"}")
			full(t, head+strings.Repeat("fence;", 401-x.orders)+x.text+"}")
			full(t, head+x.text+strings.Repeat("fence;", 401-x.orders)+"}")
		}
	}
	full(t, "thread{"+strings.Repeat("fence;", 401)+"}thread{}")
	full(t, "thread{"+strings.Repeat("fence;", 590)+"}")
	full(t, "thread{if(0){"+strings.Repeat("fence;", 399)+"}}")
	made(t, "thread{if(0){"+strings.Repeat("fence;", 398)+"}}")
	// Each thread by itself: together they may have more.
	p := made(t, strings.Repeat("thread{"+strings.Repeat("print(1);", 60)+"print(1||1);}", 4))
	if len(p.Code[3]) != 130 {
		t.Error(len(p.Code[3]))
	}
	text := "thread{" + strings.Repeat("x=1||1;", 40) + "}"
	p = made(t, "int x;"+text+text+text)
	if len(p.Code[2]) != 400 {
		t.Error(len(p.Code[2]))
	}
	full(t, "int x;"+text+text+strings.Replace(text, "}", "fence;}", 1))
}

// L1: Check's fault comes first, with nothing beside it; also of a text that would be too long.
func TestFaults(t *testing.T) {
	fences, many := strings.Repeat("fence;", 401), locals(200, "1")
	for _, text := range []string{
		"", " ", "int x;", "int x", "lock m;", "thread{", "thread{}}", "thread{x=1;}", "thread{print(a);}", "int x;int x;thread{}", "lock x;thread{x=1;}",
		"int x;thread{lock(x);}", "thread{int a=1;int a=2;}", "thread{int a=1;a=cas(a,1,2);}", "thread{while(1){int a=1;}a=2;}", "thread{}int x;",
		strings.Repeat("thread{}", 5), strings.Repeat(" ", 4001), "thread{\x00}", "thread{print(1);}\xff", "thread{print(01);}", "thread{int a=b;while(1){}}",
		"thread{" + strings.Repeat("if(1){", 20) + strings.Repeat("}", 21), "thread{" + strings.Repeat("fence;", 600) + "}",
		"thread{" + fences + "x=1;}", "thread{" + fences, "thread{" + fences + "}thread{x=1;}", "thread{" + many + "x=1;}", "thread{" + many + "int z=1;}", "lock m;thread{" + fences + "m=1;}",
		strings.Repeat("thread{}", 4) + "thread{" + fences + "}",
	} {
		_, want := check.Check(text)
		if want.Code == api.OK {
			t.Errorf("%q has no fault", text)
		}
		refused(t, text, want)
	}
	refused(t, "thread{"+fences+"x=1;}", api.Fault{Code: api.ErrName, At: 7 + 6*401})
	// More than MaxNodes nodes are told at the text's end, not at 0.
	text := "thread{" + locals(299, "1") + "}"
	refused(t, text, api.Fault{Code: api.ErrFull, At: len(text)})
}

// asTheOracle holds all that is told of a text that may be against the second writing.
func asTheOracle(t *testing.T, text string) bool {
	t.Helper()
	want, regs, longest := making(text)
	if regs > 200 || longest > 400 {
		full(t, text)
		return false
	}
	if got, f := asm.Text(made(t, text)); f != (api.Fault{}) || got != want {
		t.Errorf("%q: %v\n%s\nwant\n%s", text, f, got, want)
	}
	return true
}

// L1, L2: made-up programs, from small ones to those that are too great, as the second writing has them.
func TestAsTheOracle(t *testing.T) {
	d := dice(21)
	seen := map[string]int{}
	for i := range 6000 {
		w := writer{dice: &d, threads: 4, statements: 1 + i%60, deep: i % 7}
		text := w.program()
		if _, f := check.Check(text); f.Code != api.OK {
			seen[fmt.Sprint("fault ", f.Code)]++
			refused(t, text, f)
			continue
		}
		nodes, _ := syntax.Parse(text)
		for _, n := range nodes {
			seen[fmt.Sprint("kind ", n.Kind)]++
		}
		if asTheOracle(t, text) {
			seen["made"]++
		} else {
			seen["full"]++
		}
	}
	for kind := api.NProgram; kind <= api.NBinary; kind++ {
		if seen[fmt.Sprint("kind ", kind)] < 1000 {
			t.Error("kind", kind, "comes", seen[fmt.Sprint("kind ", kind)], "times")
		}
	}
	if seen["made"] < 3000 || seen["full"] < 100 {
		t.Error(seen)
	}
}

// P1: any text is answered, and as Check says, if that has a fault.
func TestAnyText(t *testing.T) {
	d := dice(22)
	may := 0
	words := strings.Fields("int lock unlock thread { } { } ( ) ; ; = x x m a 0 1 cas , while if else print fence + - ! && || < 999999999")
	signs := strings.Split("xyabm01;={}()+-!<&| \x80", "")
	for range 5000 {
		w := writer{dice: &d, threads: 3, statements: 6, deep: 2}
		text := []byte(w.program())
		if d.below(3) == 0 {
			text = nil
			for range d.below(20) {
				text = append(text, d.of(words...)+" "...)
			}
		}
		for range d.below(3) {
			if at := d.below(len(text) + 1); at < len(text) {
				text[at] = d.of(signs...)[0]
			}
		}
		if _, f := check.Check(string(text)); f.Code != api.OK {
			refused(t, string(text), f)
			continue
		}
		may++
		asTheOracle(t, string(text))
	}
	if may < 500 {
		t.Error("only", may, "of them may be")
	}
}

// P3: each call answers the same, in new memory, and no two lists of it share any.
func TestNothingShared(t *testing.T) {
	text := "int x=1;int y=2;lock m;thread{lock(m);x=x+1||y;unlock(m);}thread{int a=x;print(a);}thread{y=cas(x,1,2);}thread{while(x){fence;}}"
	first := made(t, text)
	again := made(t, text)
	if !reflect.DeepEqual(first, again) {
		t.Error(first, again)
	}
	for i := range first.Code {
		before := fmt.Sprint(first.Code[:i], first.Code[i+1:], first.Words)
		code := first.Code[i][:cap(first.Code[i])]
		for at := range code {
			code[at] = api.Instr{Op: 99, A: 99, B: 99, C: 99}
		}
		if fmt.Sprint(first.Code[:i], first.Code[i+1:], first.Words) != before {
			t.Error("shared:", i)
		}
	}
	first.Words[0] = 99
	if third := made(t, text); !reflect.DeepEqual(third, again) {
		t.Error(third, again)
	}
}
