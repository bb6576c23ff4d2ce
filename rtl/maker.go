package rtl

import (
	"sluice/api"
	"sluice/asm"
	"sluice/check"
)

// maker puts together the orders of a program, thread by thread.
type maker struct {
	check.Program
	words     map[int]int // of each global, by its node
	locks     map[int]int // of each lock, by its node
	registers map[int]int // of each local of the thread, by its node
	code      []api.Instr // of the thread
}

func newMaker(p check.Program) *maker {
	return &maker{Program: p, words: map[int]int{}, locks: map[int]int{}, registers: map[int]int{}}
}

func (m *maker) program() api.Program {
	var p api.Program
	for at, n := range m.Nodes {
		switch n.Kind {
		case api.NGlobal:
			m.words[at] = len(p.Words)
			p.Words = append(p.Words, n.Num)
		case api.NLock:
			m.locks[at] = p.Locks
			p.Locks++
		case api.NLocal:
			m.registers[at] = len(m.registers)
		case api.NThread:
			// All that is below it stands ahead of it, so that each of its locals has a register by now.
			p.Code = append(p.Code, m.thread(n.Kids[0]))
		}
	}
	p.Regs = asm.Regs(p.Code)
	return p
}

// thread tells the orders of a thread's block, and is done with its locals then.
func (m *maker) thread(block int) []api.Instr {
	m.code = nil
	m.block(block)
	clear(m.registers)
	return m.code
}

// first is the register to which expressions are evaluated: the one behind those of the locals.
func (m *maker) first() int {
	return len(m.registers)
}

// put lays down an order; numbers that are not told are 0.
func (m *maker) put(op int, numbers ...int) {
	var n [3]int
	copy(n[:], numbers)
	m.code = append(m.code, api.Instr{Op: op, A: n[0], B: n[1], C: n[2]})
}

// jump puts one that does not know yet where it leads, and tells its place.
func (m *maker) jump() int {
	m.put(api.OpJump)
	return len(m.code) - 1
}

// zero puts a jump as jump does, which is done where the register holds 0.
func (m *maker) zero(register int) int {
	m.put(api.OpZero, register)
	return len(m.code) - 1
}

// land lets jumps lead to what is put next.
func (m *maker) land(jumps ...int) {
	for _, at := range jumps {
		if m.code[at].Op == api.OpZero {
			m.code[at].B = len(m.code)
		} else {
			m.code[at].A = len(m.code)
		}
	}
}
