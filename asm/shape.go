package asm

import "sluice/api"

// kind tells what a number of an order is.
type kind int

const (
	unnamed kind = iota // has to be 0
	register
	word
	lock
	place // an order of the thread, or one behind the last
	number
	kindCount
)

// numbers are an order's A, B, C.
type numbers [3]int

// shape is an order's name and what its numbers are; those that are unnamed stand last.
type shape struct {
	name  string
	kinds [3]kind
}

// limits has, of each kind but number, the least number from 0 on that is too great.
type limits [kindCount]int

func shapes() map[int]shape {
	reckoned := [3]kind{register, register, register}
	return map[int]shape{
		api.OpConst:   {"const", [3]kind{register, number}},
		api.OpMove:    {"move", [3]kind{register, register}},
		api.OpAdd:     {"add", reckoned},
		api.OpSub:     {"sub", reckoned},
		api.OpMul:     {"mul", reckoned},
		api.OpLess:    {"less", reckoned},
		api.OpSame:    {"same", reckoned},
		api.OpLoad:    {"load", [3]kind{register, word}},
		api.OpStore:   {"store", [3]kind{word, register}},
		api.OpLoadAt:  {"loadat", [3]kind{register, register}},
		api.OpStoreAt: {"storeat", [3]kind{register, register}},
		api.OpFence:   {"fence", [3]kind{}},
		api.OpCas:     {"cas", [3]kind{word, register, register}},
		api.OpJump:    {"jump", [3]kind{place}},
		api.OpZero:    {"zero", [3]kind{register, place}},
		api.OpPrint:   {"print", [3]kind{register}},
		api.OpLock:    {"lock", [3]kind{lock}},
		api.OpUnlock:  {"unlock", [3]kind{lock}},
	}
}

func opsByName(all map[int]shape) map[string]int {
	ops := make(map[string]int, len(all))
	for op, s := range all {
		ops[s.name] = op
	}
	return ops
}

// count tells how many numbers the order has.
func (s shape) count() int {
	n := 0
	for n < len(s.kinds) && s.kinds[n] != unnamed {
		n++
	}
	return n
}

func numbersOf(order api.Instr) numbers {
	return numbers{order.A, order.B, order.C}
}

func orderOf(op int, n numbers) api.Instr {
	return api.Instr{Op: op, A: n[0], B: n[1], C: n[2]}
}

func limitsOf(p api.Program, code []api.Instr) limits {
	return limits{
		unnamed:  1,
		register: p.Regs,
		word:     len(p.Words),
		lock:     p.Locks,
		place:    len(code) + 1,
	}
}

func (l limits) allow(k kind, n int) bool {
	return k == number || n >= 0 && n < l[k]
}
