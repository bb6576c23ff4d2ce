package live

import "sluice/api"

// reads tells the registers that an order uses, in the order of its numbers; one that stands twice is told twice.
func reads(order api.Instr) []int {
	switch order.Op {
	case api.OpPrint, api.OpZero:
		return []int{order.A}
	case api.OpMove, api.OpStore, api.OpLoadAt:
		return []int{order.B}
	case api.OpStoreAt:
		return []int{order.A, order.B}
	case api.OpAdd, api.OpSub, api.OpMul, api.OpLess, api.OpSame, api.OpCas:
		return []int{order.B, order.C}
	}
	return nil
}

// Writes tells the register that becomes something by an order, and whether there is one.
func Writes(order api.Instr) (int, bool) {
	switch order.Op {
	case api.OpConst, api.OpMove, api.OpAdd, api.OpSub, api.OpMul, api.OpLess, api.OpSame, api.OpLoad, api.OpLoadAt:
		return order.A, true
	case api.OpCas:
		return order.B, true
	}
	return 0, false
}
