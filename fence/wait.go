package fence

import (
	"sluice/api"
	"sluice/asm"
)

// letsWait tells whether what an order does waits behind it.
func letsWait(op int) bool {
	return op == api.OpStore || op == api.OpStoreAt || op == api.OpUnlock
}

// awaits tells whether an order is done only while nothing waits.
func awaits(op int) bool {
	return op == api.OpFence || op == api.OpCas || op == api.OpLock
}

// spot is where a thread can stand, and whether something may wait there.
type spot struct {
	at    int
	waits bool
}

// mayWait tells of each order of a thread whether on some way to it something may wait ahead of it.
// To an order without a way nothing comes, so nothing waits there.
func mayWait(code []api.Instr) []bool {
	waits := make([]bool, len(code))
	known := map[spot]struct{}{}
	open := []spot{{}}
	for len(open) > 0 {
		s := open[len(open)-1]
		open = open[:len(open)-1]
		if _, is := known[s]; is || s.at == len(code) {
			continue
		}
		known[s] = struct{}{}
		waits[s.at] = waits[s.at] || s.waits
		order := code[s.at]
		for _, next := range asm.Next(order, s.at) {
			open = append(open, spot{next, waitsBehind(order.Op, s.waits)})
		}
	}
	return waits
}

// waitsBehind tells whether something may wait behind an order, from whether that is so ahead of it.
func waitsBehind(op int, ahead bool) bool {
	return letsWait(op) || ahead && !awaits(op)
}
