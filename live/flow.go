package live

import (
	"slices"

	"sluice/api"
	"sluice/asm"
)

// liveAhead tells of each order of a thread, and of behind the last one, the registers that are live ahead of it.
func liveAhead(code []api.Instr) []set {
	ahead := make([]set, len(code)+1)
	for more := true; more; {
		more = false
		// From the last one on, as most ways lead onward: so few turns are enough.
		for at, order := range slices.Backward(code) {
			needed := neededBy(order, behind(order, at, ahead))
			more = more || needed != ahead[at]
			ahead[at] = needed
		}
	}
	return ahead
}

// behind is all that is live ahead of some order that can follow the one at this place.
func behind(order api.Instr, at int, ahead []set) set {
	var live set
	for _, next := range asm.Next(order, at) {
		live = live.joined(ahead[next])
	}
	return live
}

// neededBy is what is live ahead of an order, from what is live behind it. What it reads comes last, as it reads ahead of writing.
func neededBy(order api.Instr, live set) set {
	if written, is := Writes(order); is {
		live = live.without(written)
	}
	return live.with(Reads(order)...)
}

// clashes tells of each of so many registers of a thread those that it clashes with.
func clashes(code []api.Instr, regs int) []set {
	found := make([]set, regs)
	ahead := liveAhead(code)
	for at, order := range code {
		written, is := Writes(order)
		if !is {
			continue
		}
		others := behind(order, at, ahead).without(written)
		found[written] = found[written].joined(others)
		for _, other := range others.list() {
			found[other] = found[other].with(written)
		}
	}
	return found
}
