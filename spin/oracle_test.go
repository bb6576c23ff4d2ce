package spin_test

import (
	"fmt"
	"slices"

	"sluice/api"
)

// The functions here are a second writing of the chapter, one order after the other, to hold the program against.

// linked is the program with words in place of locks; it refuses nothing.
func linked(p api.Program) api.Program {
	q := api.Program{Words: slices.Concat(p.Words, make([]int, p.Locks)), Regs: 8}
	for _, code := range p.Code {
		for at, order := range slices.Backward(code) {
			word := len(p.Words) + order.A
			switch order.Op {
			case api.OpLock:
				code = swap(code, at, api.Instr{Op: api.OpConst, A: 6}, api.Instr{Op: api.OpConst, A: 7, B: 1}, api.Instr{Op: api.OpCas, A: word, B: 6, C: 7}, api.Instr{Op: api.OpZero, A: 6, B: at})
			case api.OpUnlock:
				code = swap(code, at, api.Instr{Op: api.OpConst, A: 6}, api.Instr{Op: api.OpStore, A: word, B: 6})
			}
		}
		q.Code = append(q.Code, slices.Clone(code))
	}
	return q
}

// swap is a thread's orders with these in place of the one at this place.
func swap(code []api.Instr, at int, by ...api.Instr) []api.Instr {
	code = slices.Clone(code)
	for i := range code {
		switch {
		case code[i].Op == api.OpJump && code[i].A > at:
			code[i].A += len(by) - 1
		case code[i].Op == api.OpZero && code[i].B > at:
			code[i].B += len(by) - 1
		}
	}
	return slices.Replace(code, at, at+1, by...)
}

// done tells, of outcomes, those that are Done, each once, by their first words alone.
func done(list []api.Outcome, words int) []string {
	var texts []string
	for _, o := range list {
		if o.Status == api.Done {
			texts = append(texts, fmt.Sprint(o.Words[:words], o.Prints))
		}
	}
	slices.Sort(texts)
	return slices.Compact(texts)
}

func has(list []api.Outcome, status int) bool {
	return slices.ContainsFunc(list, func(o api.Outcome) bool { return o.Status == status })
}

// dice gives numbers that are the same each time, and look as if they were not.
type dice uint64

func (d *dice) below(n int) int {
	*d = *d*6364136223846793005 + 1442695040888963407
	return int(uint64(*d) >> 33 % uint64(n))
}

// anyOrder is one that may be among so many of a thread, mostly of one of the usual kinds.
func anyOrder(d *dice, size int, usual ...int) api.Instr {
	op := 1 + d.below(18)
	if d.below(4) > 0 {
		op = usual[d.below(len(usual))]
	}
	reg, word, lock, place := func() int { return d.below(2) }, d.below(2), d.below(2), d.below(size+1)
	switch op {
	case api.OpConst:
		return api.Instr{Op: op, A: reg(), B: d.below(4) - 1}
	case api.OpMove, api.OpLoadAt, api.OpStoreAt:
		return api.Instr{Op: op, A: reg(), B: reg()}
	case api.OpLoad:
		return api.Instr{Op: op, A: reg(), B: word}
	case api.OpStore:
		return api.Instr{Op: op, A: word, B: reg()}
	case api.OpFence:
		return api.Instr{Op: op}
	case api.OpCas:
		return api.Instr{Op: op, A: word, B: reg(), C: reg()}
	case api.OpJump:
		return api.Instr{Op: op, A: place}
	case api.OpZero:
		return api.Instr{Op: op, A: reg(), B: place}
	case api.OpPrint:
		return api.Instr{Op: op, A: reg()}
	case api.OpLock, api.OpUnlock:
		return api.Instr{Op: op, A: lock}
	}
	return api.Instr{Op: op, A: reg(), B: reg(), C: reg()}
}

// anyProgram is one that may be, with few threads, two words, two locks.
func anyProgram(d *dice, threads, size int, usual ...int) api.Program {
	p := api.Program{Words: []int{0, 1}, Locks: 2, Regs: 2, Code: make([][]api.Instr, 1+d.below(threads))}
	for i := range p.Code {
		n := d.below(size + 1)
		for range n {
			p.Code[i] = append(p.Code[i], anyOrder(d, n, usual...))
		}
	}
	return p
}

// guarded is one that may be, of two threads that take locks, mostly give them back, and do something meanwhile.
func guarded(d *dice) api.Program {
	p := api.Program{Words: []int{0, 0}, Locks: 2, Regs: 2}
	for i := range 2 {
		lock := d.below(3) / 2
		work := []api.Instr{{Op: api.OpLoad, B: d.below(2)}, {Op: api.OpPrint}}
		if d.below(2) == 0 {
			work = []api.Instr{{Op: api.OpConst, A: 1, B: i + 1}, {Op: api.OpStore, A: d.below(2), B: 1}, {Op: api.OpLoad, B: d.below(2)}, {Op: api.OpPrint}}
		}
		if d.below(3) == 0 {
			work = slices.Concat([]api.Instr{{Op: api.OpLock, A: 1 - lock}}, work, []api.Instr{{Op: api.OpUnlock, A: 1 - lock}})
		}
		code := slices.Concat([]api.Instr{{Op: api.OpLock, A: lock}}, work)
		if d.below(5) > 0 {
			code = append(code, api.Instr{Op: api.OpUnlock, A: lock})
		}
		switch d.below(5) {
		case 0:
			code = append(code, api.Instr{Op: api.OpLoad, B: d.below(2)}, api.Instr{Op: api.OpPrint})
		case 1:
			code = append(code, api.Instr{Op: api.OpZero, A: 1, B: d.below(2) * len(code)})
		case 2:
			code = slices.Insert(code, 0, api.Instr{Op: api.OpLoad, B: 0}, api.Instr{Op: api.OpZero, B: len(code) + 2})
		}
		p.Code = append(p.Code, code)
	}
	return p
}
