package asm

import "sluice/api"

// Regs is one more than the greatest register that some order of the threads has, 1 at least.
func Regs(threads [][]api.Instr) int {
	all := shapes()
	regs := 1
	for _, code := range threads {
		for _, order := range code {
			regs = max(regs, all[order.Op].regs(order))
		}
	}
	return regs
}

// regs is one more than the greatest register that an order of this shape has, 0 without one.
func (s shape) regs(order api.Instr) int {
	regs := 0
	for i, n := range numbersOf(order) {
		if s.kinds[i] == register {
			regs = max(regs, n+1)
		}
	}
	return regs
}
