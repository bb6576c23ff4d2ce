package comp_test

import (
	"fmt"
	"reflect"
	"slices"
	"strings"
	"testing"

	"sluice/alloc"
	"sluice/api"
	"sluice/asm"
	"sluice/comp"
	"sluice/live"
	"sluice/opt"
	"sluice/rtl"
)

// compiled is what comes of a text that is not refused; it may be, and has the registers of the machine (Q2).
func compiled(t *testing.T, text string) api.Program {
	t.Helper()
	p, f := comp.Compile(text)
	if f != (api.Fault{}) {
		t.Fatalf("%q: %v", text, f)
	}
	if f := asm.Check(p); f != (api.Fault{}) || p.Regs != api.RealRegs {
		t.Fatalf("%q: %v: %v", text, p, f)
	}
	return p
}

// refused holds the fault of a text, beside which nothing is told.
func refused(t *testing.T, text string, want api.Fault) {
	t.Helper()
	if p, f := comp.Compile(text); f != want || len(p.Code)+len(p.Words)+p.Locks+p.Regs != 0 {
		t.Errorf("%q: %v %v, want %v", text, p, f, want)
	}
}

// written is the text of a program that may be.
func written(t *testing.T, p api.Program) string {
	t.Helper()
	text, f := asm.Text(p)
	if f != (api.Fault{}) {
		t.Fatalf("%v: %v", p, f)
	}
	return text
}

// orders writes those of a thread, parted by "; ", with 0 for each register: which ones they are is not said.
func orders(t *testing.T, p api.Program, thread int) string {
	t.Helper()
	var code []api.Instr
	for _, order := range p.Code[thread] {
		registers, result := live.Uses(&order)
		if result != nil {
			registers = append(registers, result)
		}
		for _, register := range registers {
			*register = 0
		}
		code = append(code, order)
	}
	p.Code = [][]api.Instr{code}
	_, text, _ := strings.Cut(written(t, p), "thread\n")
	return strings.ReplaceAll(strings.TrimSuffix(text, "\n"), "\n", "; ")
}

// Examples 3 and 4 of the whole document.
func TestExamples(t *testing.T) {
	p := compiled(t, "int x;thread{x=1+2*3;}")
	if len(p.Code) != 1 || !slices.Equal(p.Words, []int{0}) || p.Locks != 0 {
		t.Fatal(p)
	}
	register := p.Code[0][0].A
	if !slices.Equal(p.Code[0], []api.Instr{{Op: api.OpConst, A: register, B: 7}, {Op: api.OpStore, B: register}}) {
		t.Error(p)
	}
	p = compiled(t, "thread{}")
	if len(p.Code) != 1 || len(p.Code[0]) != 0 || len(p.Words) != 0 || p.Locks != 0 {
		t.Error(p)
	}
	refused(t, "int x;", api.Fault{Code: api.ErrSize})
}

// Q1: Const is done ahead of Dead, and each of them once.
func TestPasses(t *testing.T) {
	for _, x := range []struct{ statements, want string }{
		{"", ""},
		{"x=1;", "const 0 1; store 0 0"},
		{"int a=2;x=a*3;", "const 0 6; store 0 0"},
		{"int a=1;", ""},
		{"fence;fence;", "fence; fence"},
		// Of what is needed just by what nobody needs, the last one goes.
		{"int a=x;", "load 0 0"},
		{"int a=x;int b=a;", "load 0 0; move 0 0; move 0 0"},
		{"int a=x;print(a+1);", "load 0 0; move 0 0; move 0 0; const 0 1; add 0 0 0; print 0"},
		// A zero that is decided goes, or becomes a jump, and so does what is never come to.
		{"if(1){x=2;}else{x=3;}", "const 0 2; store 0 0; jump 3"},
		{"if(0){x=2;}else{x=3;}", "jump 1; const 0 3; store 0 0"},
		{"while(0){x=1;}x=2;", "jump 1; const 0 2; store 0 0"},
		{"while(1){x=x+1;}print(3);", "load 0 0; const 0 1; add 0 0 0; store 0 0; jump 0"},
		{"while(1){}", "jump 0"},
		{"print(0&&x);", "jump 1; const 0 0; print 0"},
		{"if(x){y=1;}", "load 0 0; zero 0 4; const 0 1; store 1 0"},
		{"int i=0;while(i<2){i=i+1;}", "const 0 0; move 0 0; const 0 2; less 0 0 0; zero 0 10; move 0 0; const 0 1; add 0 0 0; move 0 0; jump 1"},
		{"int a=0;a=cas(x,4,1);lock(n);unlock(n);fence;y=-3;", "const 0 4; const 0 1; cas 0 0 0; lock 1; unlock 1; fence; const 0 -3; store 1 0"},
	} {
		p := compiled(t, "int x;int y=-7;lock m;lock n;thread{}thread{"+x.statements+"}thread{print(5);}")
		if got := orders(t, p, 1); got != x.want {
			t.Errorf("%s: %s, want %s", x.statements, got, x.want)
		}
		if orders(t, p, 0) != "" || orders(t, p, 2) != "const 0 5; print 0" || len(p.Code) != 3 || !slices.Equal(p.Words, []int{0, -7}) || p.Locks != 2 {
			t.Errorf("%s: %v", x.statements, p)
		}
	}
}

// needed makes so many locals of x, each of them printed so many times, so that all of them are needed at once.
func needed(locals, times int) string {
	var text strings.Builder
	for i := range locals {
		fmt.Fprint(&text, "int a", i, "=x;")
	}
	for range times {
		for i := range locals {
			fmt.Fprint(&text, "print(a", i, ");")
		}
	}
	return "thread{" + text.String() + "}"
}

// Q1: what has no register has a word behind those of the globals, if there is room.
func TestWords(t *testing.T) {
	for _, locals := range []int{1, 5} {
		if p := compiled(t, "int x=3;int y=4;"+needed(locals, 1)); !slices.Equal(p.Words, []int{3, 4}) || len(p.Code[0]) != 4*locals {
			t.Errorf("%d: %v", locals, p)
		}
	}
	for _, locals := range []int{6, 7, 12, 40} {
		// An expression's register is needed as well.
		p := compiled(t, "int x=3;int y=4;"+needed(locals, 1))
		more := locals + 1 - api.FreeRegs
		if len(p.Words) < 2+more || !slices.Equal(p.Words, append([]int{3, 4}, make([]int, len(p.Words)-2)...)) || len(p.Code[0]) < 4*locals+2*more {
			t.Errorf("%d: %v", locals, p)
		}
	}
	p := compiled(t, "int x;"+strings.Repeat(needed(12, 1), 4))
	if len(p.Words) < 1+4*7 || len(p.Code) != 4 {
		t.Error(p)
	}
}

// Q1: Apply's fault, of programs for which no colours would find room.
func TestNoRoom(t *testing.T) {
	words := api.Fault{Code: api.ErrSize}
	refused(t, "int x;"+needed(70, 1), words)
	refused(t, "int x;"+strings.Repeat(needed(25, 1), 4), words)
	refused(t, "int x;thread{}"+needed(75, 1)+"thread{}", words)
	// 320 orders; of 20 locals 14 at least are spilt, each is set once and read seven times.
	long := needed(20, 7)
	for thread := range api.MaxThreads {
		text := "int x;" + strings.Repeat("thread{}", thread) + long
		refused(t, text, api.Fault{Code: api.ErrSize, Thread: thread})
	}
	if p, f := rtl.Make("int x;" + long); f.Code != api.OK || len(p.Code[0]) != 320 {
		t.Error(p, f)
	}
	// Words are asked for first.
	refused(t, "int x;thread{}"+long+needed(60, 1), words)
}

// faulty are texts for which rtl.Make has no program.
func faulty() []string {
	fences, many := strings.Repeat("fence;", 401), strings.Repeat("if(0){int a=1;}", 40)
	return []string{
		"", " ", "int x;", "int x", "lock m;", "thread{", "thread{}}", "thread{x=1;}", "thread{print(a);}", "int x;int x;thread{}", "lock x;thread{x=1;}",
		"int x;thread{lock(x);}", "thread{int a=1;int a=2;}", "thread{int a=1;a=cas(a,1,2);}", "thread{while(1){int a=1;}a=2;}", "thread{}int x;",
		strings.Repeat("thread{}", 5), strings.Repeat(" ", 4001), "thread{\x00}", "thread{print(1);}\xff", "thread{print(01);}", "thread{int a=b;while(1){}}",
		"thread{" + strings.Repeat("if(1){", 20) + strings.Repeat("}", 21), "thread{" + strings.Repeat("fence;", 600) + "}",
		// Too long, also if less would be left to do.
		"thread{" + fences + "}", "thread{}thread{if(0){" + fences + "}}", "thread{while(1){}" + fences + "}", "thread{" + fences + "x=1;}",
		"thread{" + strings.Repeat("print(1||1);", 41) + "}", "thread{" + many + many + many + many + many + "}",
		"int x;" + needed(70, 1) + "thread{" + fences + "}", "int x;" + needed(20, 7) + "thread{x=b;}",
	}
}

// Q1: rtl.Make's fault comes first, with nothing beside it.
func TestFaults(t *testing.T) {
	for _, text := range faulty() {
		_, want := rtl.Make(text)
		if want.Code == api.OK {
			t.Errorf("%q has no fault", text)
		}
		refused(t, text, want)
	}
	refused(t, "int x;thread{x=1;y=2;}", api.Fault{Code: api.ErrName, At: 17})
	refused(t, "thread{"+strings.Repeat("fence;", 401)+"}", api.Fault{Code: api.ErrFull})
}

// asPasses holds what comes of a text against what comes of it pass by pass, and tells which of them found a fault, if any.
func asPasses(t *testing.T, text string) string {
	t.Helper()
	p, f := rtl.Make(text)
	if f.Code != api.OK {
		refused(t, text, f)
		return "no program"
	}
	p, _ = opt.Const(p)
	p, _ = opt.Dead(p)
	colours, _ := alloc.Colours(p)
	p, f = alloc.Apply(p, colours)
	if f.Code != api.OK {
		refused(t, text, f)
		return "no room"
	}
	if got, want := written(t, compiled(t, text)), written(t, p); got != want {
		t.Errorf("%q: %q, want %q", text, got, want)
	}
	return ""
}

// Q1: made-up programs, from small ones to those that are too great.
func TestAsPasses(t *testing.T) {
	d := dice(41)
	seen := map[string]int{}
	for i := range 1000 {
		w := writer{dice: &d, threads: 4, statements: 1 + i%60, deep: i % 7, crowd: i % 100}
		seen[asPasses(t, w.program())]++
	}
	if seen[""] < 300 || seen["no program"] < 50 || seen["no room"] < 50 {
		t.Error(seen)
	}
}

// P1: any text is answered.
func TestAnyText(t *testing.T) {
	d := dice(42)
	may := 0
	words := strings.Fields("int lock unlock thread { } { } ( ) ; ; = x x m a 0 1 cas , while if else print fence + - ! && || < 999999999")
	signs := strings.Split("xyabm01;={}()+-!<&| \x80", "")
	for range 3000 {
		w := writer{dice: &d, threads: 3, statements: 6, deep: 2}
		text := []byte(w.program())
		if d.below(3) == 0 {
			text = nil
			for range d.below(20) {
				text = append(text, d.of(words...)+" "...)
			}
		}
		for range d.below(3) {
			if at := d.below(len(text) + 1); at < len(text) {
				text[at] = d.of(signs...)[0]
			}
		}
		if asPasses(t, string(text)) == "" {
			may++
		}
	}
	if may < 300 {
		t.Error("only", may, "of them may be")
	}
}

// P3: each call answers the same, in new memory, and no two lists of it share any.
func TestNothingShared(t *testing.T) {
	text := "int x=1;int y=2;lock m;thread{lock(m);x=x+1||y;unlock(m);}thread{int a=x;print(a);}" + needed(8, 1) + "thread{while(x){fence;}}"
	first := compiled(t, text)
	again := compiled(t, text)
	if !reflect.DeepEqual(first, again) {
		t.Error(first, again)
	}
	for i := range first.Code {
		before := fmt.Sprint(first.Code[:i], first.Code[i+1:], first.Words)
		spoil(first.Code[i], api.Instr{Op: 99, A: 99, B: 99, C: 99})
		if fmt.Sprint(first.Code[:i], first.Code[i+1:], first.Words) != before {
			t.Error("shared:", i)
		}
	}
	spoil(first.Words, 99)
	spoil(first.Code, nil)
	if third := compiled(t, text); !reflect.DeepEqual(third, again) {
		t.Error(third, again)
	}
}

// spoil writes over all of a list, what is behind its length as well.
func spoil[T any](list []T, by T) {
	list = list[:cap(list)]
	for i := range list {
		list[i] = by
	}
}
