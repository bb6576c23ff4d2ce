// Package asm has the orders of threads: which programs may be, and their text (doc/01-asm.md).
package asm

import "sluice/api"

// Check tells the first thing that is wrong in a program.
func Check(p api.Program) api.Fault {
	if code := checkSizes(p); code != api.OK {
		return api.Fault{Code: code}
	}
	all := shapes()
	for thread, code := range p.Code {
		if len(code) > api.MaxCode {
			return api.Fault{Code: api.ErrSize, Thread: thread}
		}
		ends := limitsOf(p, code)
		for at, order := range code {
			if e := checkOrder(order, all, ends); e != api.OK {
				return api.Fault{Code: e, Thread: thread, At: at}
			}
		}
	}
	return api.Fault{}
}

func checkSizes(p api.Program) api.Errno {
	switch {
	case len(p.Code) < 1 || len(p.Code) > api.MaxThreads, len(p.Words) > api.MaxWords:
		return api.ErrSize
	case p.Locks < 0 || p.Locks > api.MaxLocks, p.Regs < 1 || p.Regs > api.MaxRegs:
		return api.ErrRange
	}
	return api.OK
}

func checkOrder(order api.Instr, all map[int]shape, ends limits) api.Errno {
	s, ok := all[order.Op]
	if !ok {
		return api.ErrKind
	}
	for i, n := range numbersOf(order) {
		if !ends.allow(s.kinds[i], n) {
			return api.ErrRange
		}
	}
	return api.OK
}
