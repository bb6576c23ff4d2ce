package opt_test

import (
	"slices"
	"strconv"
	"testing"

	"sluice/api"
	"sluice/live"
	"sluice/opt"
	"sluice/rtl"
)

// The functions here are a second writing of the chapter, to hold the program against: all rules are gone through
// anew for all orders at once, again and again, from nothing on, until nothing is another than the time before.

// A value is a text: "" is not there, "any" is any, all else is a number.

// meeting is what comes of two values where ways come together.
func meeting(a, b string) string {
	switch {
	case a == "":
		return b
	case b == "" || a == b:
		return a
	}
	return "any"
}

// knowing is, of each order and of behind the last one, whether it goes, and what its registers hold.
type knowing struct {
	goes []bool
	hold [][]string
}

func nothing(code []api.Instr, regs int) knowing {
	k := knowing{goes: make([]bool, len(code)+1)}
	for range k.goes {
		k.hold = append(k.hold, make([]string, regs))
	}
	return k
}

func (k knowing) same(other knowing) bool {
	return slices.Equal(k.goes, other.goes) && slices.EqualFunc(k.hold, other.hold, slices.Equal)
}

// follows tells which orders can follow one that goes.
func (k knowing) follows(code []api.Instr, at int) []int {
	order := code[at]
	if order.Op == api.OpJump {
		return []int{order.A}
	}
	if order.Op != api.OpZero {
		return []int{at + 1}
	}
	switch k.hold[at][order.A] {
	case "":
		return nil
	case "any":
		return []int{order.B, at + 1}
	case "0":
		return []int{order.B}
	}
	return []int{at + 1}
}

// becomes tells what an order's register becomes, and which one that is, or -1.
func (k knowing) becomes(code []api.Instr, at int) (int, string) {
	order, hold := code[at], k.hold[at]
	switch order.Op {
	case api.OpConst:
		return order.A, strconv.Itoa(order.B)
	case api.OpLoad, api.OpLoadAt:
		return order.A, "any"
	case api.OpCas:
		return order.B, "any"
	case api.OpMove:
		return order.A, hold[order.B]
	case api.OpAdd, api.OpSub, api.OpMul, api.OpLess, api.OpSame:
		return order.A, sum(order.Op, hold[order.B], hold[order.C])
	}
	return -1, ""
}

func sum(op int, left, right string) string {
	if left == "" || right == "" {
		return ""
	}
	if left == "any" || right == "any" {
		return "any"
	}
	l, _ := strconv.ParseInt(left, 10, 64)
	r, _ := strconv.ParseInt(right, 10, 64)
	n := map[int]uint64{api.OpAdd: uint64(l) + uint64(r), api.OpSub: uint64(l) - uint64(r), api.OpMul: uint64(l) * uint64(r)}[op]
	if op == api.OpLess && l < r || op == api.OpSame && left == right {
		n = 1
	}
	return strconv.FormatInt(int64(n), 10)
}

// onward is what the rules make of what is known, by what is known before alone.
func (k knowing) onward(code []api.Instr, regs int) knowing {
	next := nothing(code, regs)
	next.goes[0] = true
	for r := range regs {
		next.hold[0][r] = "0"
	}
	for at := range code {
		if !k.goes[at] {
			continue
		}
		written, value := k.becomes(code, at)
		for _, to := range k.follows(code, at) {
			next.goes[to] = true
			for r := range regs {
				if r == written {
					next.hold[to][r] = meeting(next.hold[to][r], value)
				} else {
					next.hold[to][r] = meeting(next.hold[to][r], k.hold[at][r])
				}
			}
		}
	}
	return next
}

func known(code []api.Instr, regs int) knowing {
	k := nothing(code, regs)
	for {
		next := k.onward(code, regs)
		if next.same(k) {
			return k
		}
		k = next
	}
}

// without is a thread without the orders of which gone holds: each place is counted anew from those that stay ahead of it.
func without(code []api.Instr, gone []bool) []api.Instr {
	place := func(old int) int {
		n := 0
		for at := range old {
			if !gone[at] {
				n++
			}
		}
		return n
	}
	var rest []api.Instr
	for at, order := range code {
		if gone[at] {
			continue
		}
		switch order.Op {
		case api.OpJump:
			order.A = place(order.A)
		case api.OpZero:
			order.B = place(order.B)
		}
		rest = append(rest, order)
	}
	return rest
}

// counts tells how often something became something else.
type counts struct{ numbers, jumps, never, lost, dead int }

func constOf(p api.Program, c *counts) api.Program {
	q := p
	q.Code = nil
	for _, code := range p.Code {
		k := known(code, p.Regs)
		code = slices.Clone(code)
		gone := make([]bool, len(code))
		for at, order := range code {
			written, value := k.becomes(code, at)
			if !k.goes[at] {
				gone[at] = true
				c.lost++
			} else if n, err := strconv.Atoi(value); err == nil && written >= 0 && order.Op != api.OpConst {
				code[at] = api.Instr{Op: api.OpConst, A: written, B: n}
				c.numbers++
			} else if order.Op == api.OpZero && k.hold[at][order.A] == "0" {
				code[at] = api.Instr{Op: api.OpJump, A: order.B}
				c.jumps++
			} else if order.Op == api.OpZero && k.hold[at][order.A] != "any" {
				gone[at] = true
				c.never++
			}
		}
		q.Code = append(q.Code, without(code, gone))
	}
	return q
}

func deadOf(t *testing.T, p api.Program, c *counts) api.Program {
	ahead, f := live.Ahead(p)
	if f.Code != api.OK {
		t.Fatal(p, f)
	}
	q := p
	q.Code = nil
	for thread, code := range p.Code {
		gone := make([]bool, len(code))
		for at, order := range code {
			if slices.Contains([]int{1, 2, 3, 4, 5, 6, 7, 8}, order.Op) && !slices.Contains(ahead[thread][at+1], order.A) {
				gone[at] = true
				c.dead++
			}
		}
		q.Code = append(q.Code, without(code, gone))
	}
	return q
}

// dice gives numbers that are the same each time, and look as if they were not.
type dice uint64

func (d *dice) below(n int) int {
	*d = *d*6364136223846793005 + 1442695040888963407
	return int(uint64(*d) >> 33 % uint64(n))
}

// maker makes up programs that may be, with two words and two locks.
type maker struct {
	*dice
	regs int
}

// order is one among so many of a thread. Numbers and ways are there more often than others, as most hangs on them.
func (m maker) order(size int) api.Instr {
	op := 1 + m.below(18)
	switch m.below(8) {
	case 0, 1:
		op = api.OpZero
	case 2:
		op = api.OpConst
	}
	reg := func() int { return m.below(m.regs) }
	switch op {
	case api.OpConst:
		return api.Instr{Op: op, A: reg(), B: m.below(4) - 1}
	case api.OpMove, api.OpLoadAt, api.OpStoreAt:
		return api.Instr{Op: op, A: reg(), B: reg()}
	case api.OpLoad:
		return api.Instr{Op: op, A: reg(), B: m.below(2)}
	case api.OpStore:
		return api.Instr{Op: op, A: m.below(2), B: reg()}
	case api.OpFence:
		return api.Instr{Op: op}
	case api.OpCas:
		return api.Instr{Op: op, A: m.below(2), B: reg(), C: reg()}
	case api.OpJump:
		return api.Instr{Op: op, A: m.below(size + 1)}
	case api.OpZero:
		return api.Instr{Op: op, A: reg(), B: m.below(size + 1)}
	case api.OpPrint:
		return api.Instr{Op: op, A: reg()}
	case api.OpLock, api.OpUnlock:
		return api.Instr{Op: op, A: m.below(2)}
	}
	return api.Instr{Op: op, A: reg(), B: reg(), C: reg()}
}

func (m maker) program(threads, size int) api.Program {
	p := api.Program{Words: []int{0, 3}, Locks: 2, Regs: m.regs, Code: make([][]api.Instr, threads)}
	for i := range p.Code {
		n := m.below(size + 1)
		for range n {
			p.Code[i] = append(p.Code[i], m.order(n))
		}
	}
	return p
}

// asOracle holds both functions against the second writing, one by one and one after the other.
func asOracle(t *testing.T, p api.Program, c *counts) {
	t.Helper()
	constant := done(t, opt.Const, p)
	if got, want := shown(t, constant), shown(t, constOf(p, c)); got != want {
		t.Fatalf("Const of %q: %q, want %q", shown(t, p), got, want)
	}
	for _, q := range []api.Program{p, constant} {
		if got, want := shown(t, done(t, opt.Dead, q)), shown(t, deadOf(t, q, c)); got != want {
			t.Fatalf("Dead of %q: %q, want %q", shown(t, q), got, want)
		}
	}
}

// N1 to N3: made-up programs.
func TestAgainstOracle(t *testing.T) {
	d := dice(3)
	var c counts
	for i := range 12000 {
		m := maker{dice: &d, regs: 1 + d.below(7)}
		asOracle(t, m.program(1+d.below(4), 2+i%15), &c)
	}
	if min(c.numbers, c.jumps, c.never, c.lost, c.dead) < 1000 {
		t.Error("the programs say little:", c)
	}
	for range 4 {
		asOracle(t, maker{dice: &d, regs: 40}.program(2, 120), &c)
	}
}

// N1 to N3: orders of texts of the little language.
func TestOfTexts(t *testing.T) {
	p, _ := rtl.Make("int x;thread{x=1+2*3;}")
	want := "words 0\nlocks 0\nregs 3\nthread\nconst 0 7\nstore 0 0\n"
	for turn := range 2 {
		p = done(t, opt.Dead, done(t, opt.Const, p))
		if got := shown(t, p); got != want {
			t.Errorf("%d: %q, want %q", turn, got, want)
		}
	}
	var c counts
	for _, text := range texts() {
		p, f := rtl.Make(text)
		if f.Code != api.OK {
			t.Fatal(text, f)
		}
		asOracle(t, p, &c)
	}
	if min(c.numbers, c.jumps, c.never, c.lost, c.dead) == 0 {
		t.Error("the texts say little:", c)
	}
}
