package asm

import (
	"slices"

	"sluice/api"
)

// Rewrite is a program that Check has let pass, with what become tells in place of each order.
// Places in what is told are those of old orders. They are led to the first of what that order became;
// where it became nothing, to what comes behind it.
func Rewrite(p api.Program, become func(thread, at int) []api.Instr) api.Program {
	q := api.Program{Words: slices.Clone(p.Words), Locks: p.Locks, Regs: p.Regs}
	for thread, old := range p.Code {
		var code []api.Instr
		var places []int // of each old order, and of the one behind the last, the new one
		for at := range old {
			places = append(places, len(code))
			code = append(code, become(thread, at)...)
		}
		places = append(places, len(code))
		lead(code, places)
		q.Code = append(q.Code, code)
	}
	return q
}

// lead makes all places that orders tell the new ones.
func lead(code []api.Instr, places []int) {
	all := shapes()
	for i, order := range code {
		n := numbersOf(order)
		for j, k := range all[order.Op].kinds {
			if k == place {
				n[j] = places[n[j]]
			}
		}
		code[i] = orderOf(order.Op, n)
	}
}

// Next tells at which places a thread can go on behind its order at a place, whatever registers hold.
func Next(order api.Instr, at int) []int {
	switch order.Op {
	case api.OpJump:
		return []int{order.A}
	case api.OpZero:
		return []int{at + 1, order.B}
	}
	return []int{at + 1}
}
