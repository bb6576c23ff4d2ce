package opt_test

import (
	"fmt"
	"slices"
	"testing"

	"sluice/api"
	"sluice/opt"
	"sluice/rtl"
	"sluice/space"
)

func texts() []string {
	return []string{
		"thread{}",
		"int x;thread{x=1+2*3;}",
		"int x;lock m;thread{lock(m);x=x+1;unlock(m);}thread{lock(m);x=x*2;unlock(m);}",
		"int x;int y;int a=7;int b=7;thread{x=1;a=y;}thread{y=1;b=x;}",
		"int x;int y;thread{x=1;fence;print(y);}thread{y=1;fence;print(x);}",
		"int x;thread{int i=0;int s=0;while(i<4){i=i+1;if(i==2&&x){s=s*2;}else{s=s+i;}}print(s);}thread{x=3;}",
		"int x=4;thread{int a=0;a=cas(x,4,1+x||0);if(!a){int b=a-x;a=-b;}x=a;}thread{x=5;}",
		"int x;thread{int a=2;if(a>1&&a<3||x){print(a);}else{print(-a);}while(a==3){print(9);}}thread{int n=0;while(n!=0){x=n;}x=n+1;}",
		"int x;int y;thread{int on=1;while(on){if(x){on=0;}}print(y);}thread{y=1;x=1;}",
		"lock m;lock n;thread{lock(m);lock(n);unlock(n);unlock(m);}thread{int z=0;lock(n);if(z){unlock(n);}lock(m);unlock(m);unlock(n);}",
		"int x;lock m;thread{int a=x;a=5;x=a*a;unlock(m);}thread{print(x);}",
	}
}

// told writes outcomes as texts; an empty list may be nil or not.
func told(list []api.Outcome) []string {
	var lines []string
	for _, o := range list {
		lines = append(lines, fmt.Sprint(o.Status, o.Words, o.Prints))
	}
	return lines
}

// come tells all that can come of a program, if it is told.
func come(by func(api.Program) ([]api.Outcome, api.Fault), p api.Program) ([]string, bool) {
	list, f := by(p)
	return told(list), f.Code == api.OK
}

// sameComes holds what can come of a program against what can come of it with less to do; it tells how much there is of that.
func sameComes(t *testing.T, p api.Program) int {
	t.Helper()
	constant := done(t, opt.Const, p)
	dead := done(t, opt.Dead, p)
	both := done(t, opt.Dead, constant)
	most := 0
	for i, by := range []func(api.Program) ([]api.Outcome, api.Fault){space.SC, space.TSO} {
		want, is := come(by, p)
		if !is {
			continue
		}
		most = max(most, len(want))
		for j, q := range []api.Program{constant, dead, both, done(t, opt.Const, dead)} {
			if got, is := come(by, q); is && !slices.Equal(got, want) {
				t.Fatalf("%d %d: %q of %q, want %q of %q", i, j, got, shown(t, q), want, shown(t, p))
			}
		}
	}
	return most
}

// N4: texts of the little language.
func TestOutcomesOfTexts(t *testing.T) {
	for _, text := range texts() {
		p, f := rtl.Make(text)
		if f.Code != api.OK {
			t.Fatal(text, f)
		}
		if sameComes(t, p) == 0 {
			t.Error("nothing is told of", text)
		}
	}
}

// tame is a program with few orders that go back or fall, so that much can come of it; each thread prints a register at last.
func (m maker) tame(threads, size int) api.Program {
	p := m.program(threads, size)
	for i, code := range p.Code {
		for at, order := range code {
			switch order.Op {
			case api.OpJump:
				if m.below(8) > 0 {
					code[at].A = at + 1 + m.below(len(code)-at)
				}
			case api.OpZero:
				if m.below(8) > 0 {
					code[at].B = at + 1 + m.below(len(code)-at)
				}
			case api.OpUnlock, api.OpLoadAt:
				if m.below(4) > 0 {
					code[at] = api.Instr{Op: api.OpLoad, A: m.below(m.regs), B: m.below(2)}
				}
			case api.OpMul, api.OpLess:
				if m.below(2) > 0 {
					code[at] = api.Instr{Op: api.OpLock, A: m.below(2)}
				}
			case api.OpStoreAt, api.OpPrint:
				if m.below(4) > 0 {
					code[at] = api.Instr{Op: api.OpStore, A: m.below(2), B: m.below(m.regs)}
				}
			}
		}
		p.Code[i] = append(code, api.Instr{Op: api.OpPrint, A: m.below(m.regs)})
	}
	return p
}

// N4: made-up programs, with each way to end.
func TestOutcomes(t *testing.T) {
	d := dice(21)
	some, ends := 0, [3]int{}
	for i := range 3000 {
		p := maker{dice: &d, regs: 1 + d.below(4)}.tame(1+d.below(3), 2+i%7)
		if sameComes(t, p) > 1 {
			some++
		}
		list, _ := space.TSO(p)
		for _, o := range list {
			ends[o.Status]++
		}
	}
	if some < 1000 || slices.Min(ends[:]) < 100 {
		t.Error("the programs say little:", some, ends)
	}
}

// N4: what could let a run fall, and what others can see, stays.
func TestOutcomesOfKnown(t *testing.T) {
	for _, x := range []struct{ first, second, want string }{
		{"const 1 9; loadat 2 1", "fence", "[1 [] []]"},
		{"const 1 -1; loadat 2 1", "fence", "[1 [] []]"},
		{"const 1 9; storeat 1 2", "fence", "[1 [] []]"},
		{"unlock 0", "print 0", "[1 [] [] 1 [] [1 0]]"},
		{"lock 0; lock 0", "fence", "[2 [5 0 0 0 0 0 0 0 0] []]"},
		{"const 1 5; const 2 8; cas 0 1 2", "fence", "[0 [8 0 0 0 0 0 0 0 0] []]"},
		{"load 1 0; const 1 2; print 1", "store 0 0", "[0 [0 0 0 0 0 0 0 0 0] [0 2]]"},
		{"load 1 0; zero 1 3; print 0; fence", "store 0 0", "[0 [0 0 0 0 0 0 0 0 0] [] 0 [0 0 0 0 0 0 0 0 0] [0 0]]"},
	} {
		p := program(t, x.first, x.second)
		if sameComes(t, p) == 0 {
			t.Error("nothing is told of", x.first)
		}
		for _, by := range []face{opt.Const, opt.Dead} {
			got, is := come(space.SC, done(t, by, p))
			if fmt.Sprint(got) != x.want || !is {
				t.Error(x.first, got, x.want)
			}
		}
	}
}
