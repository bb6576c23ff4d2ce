package sc

import "sluice/api"

// step does the thread's next order, and tells whether the run goes on.
func (s *State) step(who int) bool {
	t := &s.threads[who]
	order := t.code[t.at]
	t.at++
	switch order.Op {
	case api.OpJump:
		t.at = order.A
	case api.OpZero:
		if t.regs[order.A] == 0 {
			t.at = order.B
		}
	case api.OpPrint:
		s.prints = append(s.prints, who, t.regs[order.A])
	case api.OpLock:
		s.Lock(who, order.A)
	case api.OpUnlock:
		return s.Unlock(who, order.A)
	case api.OpLoad, api.OpStore, api.OpLoadAt, api.OpStoreAt, api.OpCas:
		return s.touch(who, order)
	default:
		t.reckon(order)
	}
	return true
}

// touch does an order of a word, and tells whether there is that word.
func (s *State) touch(who int, order api.Instr) bool {
	regs := s.threads[who].regs
	word, is := wordOf(order, regs)
	if !is || !s.Has(word) {
		return false
	}
	switch order.Op {
	case api.OpLoad, api.OpLoadAt:
		regs[order.A] = s.Load(who, word)
	case api.OpStore, api.OpStoreAt:
		s.Store(who, word, regs[order.B])
	case api.OpCas:
		regs[order.B] = Truth(s.Swap(who, word, regs[order.B], regs[order.C]))
	}
	return true
}

// wordOf tells the number of the word that an order touches, and whether it is an order of a word; there may be no such word.
func wordOf(order api.Instr, regs []int) (int, bool) {
	switch order.Op {
	case api.OpLoad:
		return order.B, true
	case api.OpStore, api.OpCas:
		return order.A, true
	case api.OpLoadAt:
		return regs[order.B], true
	case api.OpStoreAt:
		return regs[order.A], true
	}
	return 0, false
}

// reckon does an order that the thread's registers alone have to do with.
func (t *thread) reckon(order api.Instr) {
	r := t.regs
	switch order.Op {
	case api.OpConst:
		r[order.A] = order.B
	case api.OpMove, api.OpAdd, api.OpSub, api.OpMul, api.OpLess, api.OpSame:
		r[order.A] = Reckon(order.Op, r[order.B], r[order.C])
	}
}

// Reckon tells what an order from OpMove to OpSame makes of what its B and C hold; OpMove leaves what C holds alone.
func Reckon(op, b, c int) int {
	switch op {
	case api.OpAdd:
		return b + c
	case api.OpSub:
		return b - c
	case api.OpMul:
		return b * c
	case api.OpLess:
		return Truth(b < c)
	case api.OpSame:
		return Truth(b == c)
	}
	return b
}

// Truth is how the machines tell that something holds: 1, else 0.
func Truth(holds bool) int {
	if holds {
		return 1
	}
	return 0
}
