package live_test

import "sluice/api"

// The functions here are a second writing of the chapter, register by register and way by way, to hold the program against.

// parts tells of an order's numbers A, B, C whether each is a register that it reads (r), writes (w), or both (b).
func parts(op int) string {
	switch op {
	case api.OpConst, api.OpLoad:
		return "w.."
	case api.OpMove, api.OpLoadAt:
		return "wr."
	case api.OpAdd, api.OpSub, api.OpMul, api.OpLess, api.OpSame:
		return "wrr"
	case api.OpStore:
		return ".r."
	case api.OpStoreAt:
		return "rr."
	case api.OpCas:
		return ".br"
	case api.OpZero, api.OpPrint:
		return "r.."
	}
	return "..."
}

// has tells whether the register is one of the order's, as a letter says.
func has(order api.Instr, register int, letter rune) bool {
	for i, part := range parts(order.Op) {
		if (part == letter || part == 'b') && [3]int{order.A, order.B, order.C}[i] == register {
			return true
		}
	}
	return false
}

func follow(code []api.Instr, at int) []int {
	switch order := code[at]; order.Op {
	case api.OpJump:
		return []int{order.A}
	case api.OpZero:
		return []int{order.B, at + 1}
	}
	return []int{at + 1}
}

// isLive goes all ways from an order on, each as far as one that reads or writes the register.
func isLive(code []api.Instr, from, register int) bool {
	come := make([]bool, len(code))
	ways := []int{from}
	for len(ways) > 0 {
		at := ways[0]
		ways = ways[1:]
		switch {
		case at == len(code) || come[at]:
		case has(code[at], register, 'r'):
			return true
		case has(code[at], register, 'w'):
		default:
			come[at] = true
			ways = append(ways, follow(code, at)...)
		}
	}
	return false
}

func liveBehind(code []api.Instr, at, register int) bool {
	for _, next := range follow(code, at) {
		if isLive(code, next, register) {
			return true
		}
	}
	return false
}

func doClash(code []api.Instr, a, b int) bool {
	for at, order := range code {
		if has(order, a, 'w') && liveBehind(code, at, b) || has(order, b, 'w') && liveBehind(code, at, a) {
			return a != b
		}
	}
	return false
}

// chosen are the registers of which a question is answered yes.
func chosen(regs int, is func(register int) bool) []int {
	var list []int
	for r := range regs {
		if is(r) {
			list = append(list, r)
		}
	}
	return list
}

func aheadOf(p api.Program) [][][]int {
	var threads [][][]int
	for _, code := range p.Code {
		var lists [][]int
		for at := range len(code) + 1 {
			lists = append(lists, chosen(p.Regs, func(r int) bool { return isLive(code, at, r) }))
		}
		threads = append(threads, lists)
	}
	return threads
}

func clashOf(p api.Program) [][][]int {
	var threads [][][]int
	for _, code := range p.Code {
		var lists [][]int
		for a := range p.Regs {
			lists = append(lists, chosen(p.Regs, func(b int) bool { return doClash(code, a, b) }))
		}
		threads = append(threads, lists)
	}
	return threads
}

// dice gives numbers that are the same each time, and look as if they were not.
type dice uint64

func (d *dice) below(n int) int {
	*d = *d*6364136223846793005 + 1442695040888963407
	return int(uint64(*d) >> 33 % uint64(n))
}

// maker makes up programs that may be, with two words and two locks.
type maker struct {
	*dice
	regs int
}

// order is one among so many of a thread.
func (m maker) order(size int) api.Instr {
	op := 1 + m.below(18)
	if m.below(5) == 0 {
		op = api.OpZero
	}
	reg := func() int { return m.below(m.regs) }
	switch op {
	case api.OpConst:
		return api.Instr{Op: op, A: reg(), B: m.below(5) - 1}
	case api.OpMove, api.OpLoadAt, api.OpStoreAt:
		return api.Instr{Op: op, A: reg(), B: reg()}
	case api.OpLoad:
		return api.Instr{Op: op, A: reg(), B: m.below(2)}
	case api.OpStore:
		return api.Instr{Op: op, A: m.below(2), B: reg()}
	case api.OpFence:
		return api.Instr{Op: op}
	case api.OpCas:
		return api.Instr{Op: op, A: m.below(2), B: reg(), C: reg()}
	case api.OpJump:
		return api.Instr{Op: op, A: m.below(size + 1)}
	case api.OpZero:
		return api.Instr{Op: op, A: reg(), B: m.below(size + 1)}
	case api.OpPrint:
		return api.Instr{Op: op, A: reg()}
	case api.OpLock, api.OpUnlock:
		return api.Instr{Op: op, A: m.below(2)}
	}
	return api.Instr{Op: op, A: reg(), B: reg(), C: reg()}
}

func (m maker) program(threads, size int) api.Program {
	p := api.Program{Words: []int{0, 3}, Locks: 2, Regs: m.regs, Code: make([][]api.Instr, threads)}
	for i := range p.Code {
		n := m.below(size + 1)
		for range n {
			p.Code[i] = append(p.Code[i], m.order(n))
		}
	}
	return p
}
