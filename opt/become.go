package opt

import (
	"slices"

	"sluice/api"
	"sluice/live"
)

// become tells what an order becomes by what is known ahead of it.
func (f *flow) become(at int) []api.Instr {
	order, ahead := f.code[at], f.ahead[at]
	switch {
	case len(ahead) == 0:
		return nil
	case order.Op == api.OpZero:
		return decided(order, ahead[order.A])
	case reckons(order.Op):
		if v := reckoned(order, ahead); v.kind == always {
			return []api.Instr{{Op: api.OpConst, A: order.A, B: v.number}}
		}
	}
	return []api.Instr{order}
}

// decided is what an OpZero becomes by the value that it asks for.
func decided(zero api.Instr, asked value) []api.Instr {
	switch {
	case asked == alwaysThe(0):
		return []api.Instr{{Op: api.OpJump, A: zero.B}}
	case asked.kind == always:
		return nil
	}
	return []api.Instr{zero}
}

// needs has a thread's orders, and the registers that are live ahead of each of them and behind the last one.
type needs struct {
	code  []api.Instr
	ahead [][]int
}

// become leaves an order as it is, if it does more than to write a register, or that one is needed.
func (n needs) become(at int) []api.Instr {
	order := n.code[at]
	if written, is := live.Writes(order); is && doesNoMore(order.Op) && !slices.Contains(n.ahead[at+1], written) {
		return nil
	}
	return []api.Instr{order}
}

// doesNoMore tells whether all that an order does is to write a register: OpLoadAt could fall, and OpCas stores.
func doesNoMore(op int) bool {
	return op == api.OpConst || op == api.OpLoad || reckons(op)
}
