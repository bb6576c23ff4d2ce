package live

import "sluice/api"

// Uses tells those of an order's numbers that are registers: the ones that it reads, in the order of its numbers, and the one that it writes, if not nil.
// An OpCas has one that is both.
func Uses(order *api.Instr) (reads []*int, written *int) {
	switch order.Op {
	case api.OpConst, api.OpLoad:
		return nil, &order.A
	case api.OpMove, api.OpLoadAt:
		return []*int{&order.B}, &order.A
	case api.OpAdd, api.OpSub, api.OpMul, api.OpLess, api.OpSame:
		return []*int{&order.B, &order.C}, &order.A
	case api.OpCas:
		return []*int{&order.B, &order.C}, &order.B
	case api.OpPrint, api.OpZero:
		return []*int{&order.A}, nil
	case api.OpStore:
		return []*int{&order.B}, nil
	case api.OpStoreAt:
		return []*int{&order.A, &order.B}, nil
	}
	return nil, nil
}

// Reads tells the registers that an order uses, in the order of its numbers; one that stands twice is told twice.
func Reads(order api.Instr) []int {
	var registers []int
	reads, _ := Uses(&order)
	for _, register := range reads {
		registers = append(registers, *register)
	}
	return registers
}

// Writes tells the register that becomes something by an order, and whether there is one.
func Writes(order api.Instr) (int, bool) {
	if _, written := Uses(&order); written != nil {
		return *written, true
	}
	return 0, false
}
