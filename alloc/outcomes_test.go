package alloc_test

import (
	"fmt"
	"slices"
	"testing"

	"sluice/alloc"
	"sluice/api"
	"sluice/rtl"
	"sluice/space"
)

func texts() []string {
	return []string{
		"thread{}",
		"int x;thread{x=1+2*3;}",
		"int x;lock m;thread{lock(m);x=x+1;unlock(m);}thread{lock(m);x=x*2;unlock(m);}",
		"int x;int y;int a=7;int b=7;thread{x=1;a=y;}thread{y=1;b=x;}",
		"int x;thread{int i=0;int s=0;while(i<4){i=i+1;if(i==2&&x){s=s*2;}else{s=s+i;}}print(s);}thread{x=3;}",
		"int x=4;thread{int a=0;a=cas(x,4,1+x||0);if(!a){int b=a-x;a=-b;}x=a;}thread{x=5;}",
		"int x;thread{int a=1;int b=2;int c=3;int d=4;int e=5;int f=6;int g=x;print(a+b*(c-d*(e+f*(g+x))));print(a+b+c+d+e+f+g);}thread{x=2;}",
		"int x;thread{int a=x;int b=a+1;int c=b+1;int d=c+1;int e=d+1;int f=e+1;int g=f+1;int h=g+1;while(a<2){a=a+1;x=a+b+c+d+e+f+g+h;}print(h-g+f-e+d-c+b-a);}thread{print(x);}",
		"int x;lock m;thread{int a=x;a=5;x=a*a;unlock(m);}thread{print(x);}",
	}
}

// come tells all that can come of a program, with so many words, if that is told: each once, in order.
func come(p api.Program, words int) ([]string, bool) {
	list, f := space.SC(p)
	var lines []string
	for _, o := range list {
		if o.Status != api.Fell {
			o.Words = o.Words[:words]
		}
		lines = append(lines, fmt.Sprint(o.Status, o.Words, o.Prints))
	}
	slices.Sort(lines)
	return slices.Compact(lines), f.Code == api.OK
}

// says tells whether chapter 15 says anything of what can come of a program.
func says(p api.Program) bool {
	list, f := space.SC(p)
	at := slices.ContainsFunc(slices.Concat(p.Code...), func(order api.Instr) bool {
		return order.Op == api.OpLoadAt || order.Op == api.OpStoreAt
	})
	falls := slices.ContainsFunc(list, func(o api.Outcome) bool { return o.Status == api.Fell })
	return f.Code == api.OK && !(at && falls)
}

// sameComes holds what can come of a program against what can come of it with these colours; it tells how much there is of that.
func sameComes(t *testing.T, p api.Program, colours [][]int) int {
	t.Helper()
	if !says(p) {
		return 0
	}
	q, f := alloc.Apply(p, colours)
	if f.Code != api.OK {
		t.Fatal(f, shown(t, p), colours)
	}
	want, _ := come(p, len(p.Words))
	got, is := come(q, len(p.Words))
	if !is {
		return 0
	}
	if !slices.Equal(got, want) {
		t.Fatalf("%q of %q, want %q of %q %v", got, shown(t, q), want, shown(t, p), colours)
	}
	return len(want)
}

// O4: texts of the little language, with colours that are found, and with all registers spilt.
func TestOutcomesOfTexts(t *testing.T) {
	d := dice(77)
	for _, text := range texts() {
		p, f := rtl.Make(text)
		if f.Code != api.OK {
			t.Fatal(text, f)
		}
		if sameComes(t, p, found(t, p)) == 0 {
			t.Error("nothing is told of", text)
		}
		for range 20 {
			sameComes(t, p, maker{dice: &d}.colours(t, p))
		}
		sameComes(t, p, slices.Repeat([][]int{slices.Repeat([]int{-1}, p.Regs)}, len(p.Code)))
	}
}

// tame is a program with few orders that go back or fall, so that much can come of it; each thread prints registers at last.
func (m maker) tame(threads, size int) api.Program {
	p := m.program(threads, size)
	for i, code := range p.Code {
		for at, order := range code {
			switch order.Op {
			case api.OpJump:
				if m.below(8) > 0 {
					code[at].A = at + 1 + m.below(len(code)-at)
				}
			case api.OpZero:
				if m.below(8) > 0 {
					code[at].B = at + 1 + m.below(len(code)-at)
				}
			case api.OpUnlock, api.OpLoadAt:
				if m.below(4) > 0 {
					code[at] = api.Instr{Op: api.OpLoad, A: m.below(m.regs), B: m.below(2)}
				}
			case api.OpMul:
				if m.below(2) > 0 {
					code[at] = api.Instr{Op: api.OpLock, A: m.below(2)}
				}
			case api.OpStoreAt, api.OpFence:
				if m.below(4) > 0 {
					code[at] = api.Instr{Op: api.OpStore, A: m.below(2), B: m.below(m.regs)}
				}
			}
		}
		for range 3 {
			code = append(code, api.Instr{Op: api.OpPrint, A: m.below(m.regs)})
		}
		p.Code[i] = code
	}
	return p
}

// O4: made-up programs, with colours that are found and with made-up ones.
func TestOutcomes(t *testing.T) {
	d := dice(13)
	some, ends := 0, [3]int{}
	for i := range 3000 {
		m := maker{dice: &d, regs: 2 + d.below(9)}
		p := m.tame(1+d.below(2), 2+i%9)
		told := sameComes(t, p, found(t, p))
		if told > 0 && sameComes(t, p, m.colours(t, p)) > 1 {
			some++
		}
		if told > 0 {
			list, _ := space.SC(p)
			for _, o := range list {
				ends[o.Status]++
			}
		}
	}
	if some < 500 || slices.Min(ends[:]) < 30 {
		t.Error("the programs say little:", some, ends)
	}
}
