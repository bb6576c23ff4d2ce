package live_test

import (
	"fmt"
	"slices"
	"testing"

	"sluice/api"
	"sluice/asm"
	"sluice/live"
	"sluice/sc"
)

// ended tells how a program of one thread ends, and whether it does.
func ended(t *testing.T, p api.Program) (string, bool) {
	t.Helper()
	trace, f := sc.Run(p, nil)
	if f.Code != api.OK {
		t.Fatal(p, f)
	}
	return fmt.Sprint(trace.Prints, trace.Status, trace.Words), trace.Status != api.Out
}

// spoilt is a program of one thread in which ahead of each order all registers that are not live there become something else.
func spoilt(t *testing.T, p api.Program) api.Program {
	ahead := all(t, live.Ahead, p)[0]
	return asm.Rewrite(p, func(_, at int) []api.Instr {
		var orders []api.Instr
		for r := range p.Regs {
			if !slices.Contains(ahead[at], r) {
				orders = append(orders, api.Instr{Op: api.OpConst, A: r, B: 100*at + r + 50})
			}
		}
		return append(orders, p.Code[0][at])
	})
}

// M1: what a register holds makes no difference where it is not live.
func TestNotLiveIsNotNeeded(t *testing.T) {
	d := dice(5)
	ends := 0
	for i := range 4000 {
		p := maker{dice: &d, regs: 4}.program(1, 3+i%14)
		want, is := ended(t, p)
		if !is {
			continue
		}
		ends++
		if got, is := ended(t, spoilt(t, p)); is && got != want {
			t.Fatal(p, got, want)
		}
	}
	if ends < 1000 {
		t.Error("few of them end:", ends)
	}
}

// merged is a program whose register b is a.
func merged(p api.Program, a, b int) api.Program {
	q := api.Program{Words: p.Words, Locks: p.Locks, Regs: p.Regs}
	for _, code := range p.Code {
		code = slices.Clone(code)
		for i, order := range code {
			numbers := [3]*int{&code[i].A, &code[i].B, &code[i].C}
			for j, part := range parts(order.Op) {
				if part != '.' && *numbers[j] == b {
					*numbers[j] = a
				}
			}
		}
		q.Code = append(q.Code, code)
	}
	return q
}

// M3: registers that do not clash may be one.
func TestNoClashMayBeOne(t *testing.T) {
	d := dice(8)
	merges := 0
	for i := range 3000 {
		p := maker{dice: &d, regs: 4}.program(1, 3+i%14)
		want, is := ended(t, p)
		if !is {
			continue
		}
		clash := all(t, live.Clash, p)[0]
		for a := range p.Regs {
			for b := range p.Regs {
				if a == b || slices.Contains(clash[a], b) {
					continue
				}
				merges++
				if got, _ := ended(t, merged(p, a, b)); got != want {
					t.Fatal(p, a, b, got, want)
				}
			}
		}
	}
	if merges < 1000 {
		t.Error("few of them do not clash:", merges)
	}
}
