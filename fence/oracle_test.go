package fence_test

import (
	"fmt"
	"slices"

	"sluice/api"
	"sluice/space"
)

// The functions here are a second writing of the chapter, one order after the other, to hold the program against.

// put is a thread's orders with a fence behind the one at this place.
func put(code []api.Instr, at int) []api.Instr {
	code = shift(code, func(c int) int {
		if c > at {
			return c + 1
		}
		return c
	})
	return slices.Insert(code, at+1, api.Instr{Op: api.OpFence})
}

// take is a thread's orders without the one at this place.
func take(code []api.Instr, at int) []api.Instr {
	code = shift(code, func(c int) int {
		if c > at {
			return c - 1
		}
		return c
	})
	return slices.Delete(code, at, at+1)
}

// shift is a list of its own in which all numbers of orders are what to says.
func shift(code []api.Instr, to func(c int) int) []api.Instr {
	code = slices.Clone(code)
	for i := range code {
		switch code[i].Op {
		case api.OpJump:
			code[i].A = to(code[i].A)
		case api.OpZero:
			code[i].B = to(code[i].B)
		}
	}
	return code
}

func isOne(op int, of ...int) bool {
	return slices.Contains(of, op)
}

func waits(op int) bool {
	return isOne(op, api.OpStore, api.OpStoreAt, api.OpUnlock)
}

// fenced is the program with a fence behind each of these places, which rise.
func fenced(p api.Program, places [][2]int) api.Program {
	p.Code = slices.Clone(p.Code)
	for _, at := range slices.Backward(places) {
		p.Code[at[0]] = put(p.Code[at[0]], at[1])
	}
	return p
}

// placesOf are those of all orders behind which Full puts a fence.
func placesOf(p api.Program) [][2]int {
	var list [][2]int
	for i, code := range p.Code {
		for at, order := range code {
			if waits(order.Op) {
				list = append(list, [2]int{i, at})
			}
		}
	}
	return list
}

// reached tells which orders can be come to from one of these places on, where ends says ahead of which orders ways end.
func reached(code []api.Instr, from []int, ends func(op int) bool) []bool {
	list := make([]bool, len(code)+1)
	for more := true; more; {
		more = false
		come := func(at int) {
			more = more || !list[at]
			list[at] = true
		}
		for _, at := range from {
			come(at)
		}
		for at, order := range code {
			if !list[at] || ends(order.Op) {
				continue
			}
			for _, next := range goes(order, at) {
				come(next)
			}
		}
	}
	return list
}

func goes(order api.Instr, at int) []int {
	switch order.Op {
	case api.OpJump:
		return []int{order.A}
	case api.OpZero:
		return []int{order.B, at + 1}
	}
	return []int{at + 1}
}

// dropped is the program without fences to which no way comes from a store that can be come to, that passes by none of those that wait for it.
func dropped(p api.Program) api.Program {
	p.Code = slices.Clone(p.Code)
	for i, code := range p.Code {
		var from []int
		for at, there := range reached(code, []int{0}, func(int) bool { return false })[:len(code)] {
			if there && waits(code[at].Op) {
				from = append(from, at+1)
			}
		}
		dirty := reached(code, from, func(op int) bool { return isOne(op, api.OpFence, api.OpCas, api.OpLock) })
		for at, order := range slices.Backward(code) {
			if order.Op == api.OpFence && !dirty[at] {
				p.Code[i] = take(p.Code[i], at)
			}
		}
	}
	return p
}

// fewest looks at all sets of places, in the order of how many there are, then of the places.
func fewest(p api.Program) ([][2]int, api.Errno) {
	places := placesOf(p)
	if len(places) > 6 {
		return nil, api.ErrSize
	}
	var sets [][][2]int
	for mask := range 1 << len(places) {
		var set [][2]int
		for i, at := range places {
			if mask>>i&1 == 1 {
				set = append(set, at)
			}
		}
		sets = append(sets, set)
	}
	slices.SortFunc(sets, func(a, b [][2]int) int {
		if len(a) != len(b) {
			return len(a) - len(b)
		}
		return slices.CompareFunc(a, b, func(x, y [2]int) int { return slices.Compare(x[:], y[:]) })
	})
	plain, f := space.SC(p)
	if f.Code != api.OK {
		return nil, f.Code
	}
	for _, set := range sets {
		waiting, f := space.TSO(fenced(p, set))
		if f.Code != api.OK {
			return nil, f.Code
		}
		if told(plain) == told(waiting) {
			return set, api.OK
		}
	}
	return nil, -1
}

// told writes outcomes as a text; an empty list may be nil or not.
func told(list []api.Outcome) string {
	text := ""
	for _, o := range list {
		text += fmt.Sprintf("%d %v %v; ", o.Status, o.Words, o.Prints)
	}
	return text
}

// dice gives numbers that are the same each time, and look as if they were not.
type dice uint64

func (d *dice) below(n int) int {
	*d = *d*6364136223846793005 + 1442695040888963407
	return int(uint64(*d) >> 33 % uint64(n))
}

// anyOrder is one that may be among so many of a thread, mostly of one of the usual kinds.
func anyOrder(d *dice, size int, usual ...int) api.Instr {
	op := 1 + d.below(18)
	if d.below(4) > 0 {
		op = usual[d.below(len(usual))]
	}
	reg, word, lock, place := func() int { return d.below(2) }, d.below(2), d.below(2), d.below(size+1)
	switch op {
	case api.OpConst:
		return api.Instr{Op: op, A: reg(), B: d.below(4) - 1}
	case api.OpMove, api.OpLoadAt, api.OpStoreAt:
		return api.Instr{Op: op, A: reg(), B: reg()}
	case api.OpLoad:
		return api.Instr{Op: op, A: reg(), B: word}
	case api.OpStore:
		return api.Instr{Op: op, A: word, B: reg()}
	case api.OpFence:
		return api.Instr{Op: op}
	case api.OpCas:
		return api.Instr{Op: op, A: word, B: reg(), C: reg()}
	case api.OpJump:
		return api.Instr{Op: op, A: place}
	case api.OpZero:
		return api.Instr{Op: op, A: reg(), B: place}
	case api.OpPrint:
		return api.Instr{Op: op, A: reg()}
	case api.OpLock, api.OpUnlock:
		return api.Instr{Op: op, A: lock}
	}
	return api.Instr{Op: op, A: reg(), B: reg(), C: reg()}
}

// anyProgram is one that may be, with few threads, two words, two locks.
func anyProgram(d *dice, threads, size int, usual ...int) api.Program {
	p := api.Program{Words: []int{0, 1}, Locks: 2, Regs: 2, Code: make([][]api.Instr, 1+d.below(threads))}
	for i := range p.Code {
		n := d.below(size + 1)
		for range n {
			p.Code[i] = append(p.Code[i], anyOrder(d, n, usual...))
		}
	}
	return p
}

// crossed is one that may be, whose threads store into words that others look at; here and there another order stands between.
func crossed(d *dice) api.Program {
	p := api.Program{Words: []int{0, 0}, Locks: 2, Regs: 2}
	for i := range 2 + d.below(2) {
		code := []api.Instr{
			{Op: api.OpConst, B: 1},
			{Op: api.OpStore, A: i % 2},
			{Op: api.OpLoad, A: 1, B: (i + 1) % 2},
			{Op: api.OpPrint, A: 1},
		}
		for range d.below(3) {
			at := d.below(4)
			order := anyOrder(d, len(code), api.OpStore, api.OpStoreAt, api.OpFence, api.OpLock, api.OpUnlock, api.OpZero)
			code = slices.Insert(code, at, order)
		}
		p.Code = append(p.Code, code)
	}
	return p
}
