package alloc

import (
	"slices"

	"sluice/api"
	"sluice/live"
)

// graph has, of each register of a thread, which others it clashes with.
type graph struct {
	clash [][]int
	uses  []int  // how often orders read or write it
	rest  []int  // how many of those that it clashes with are not laid aside
	aside []bool // whether it is laid aside itself
}

func newGraph(clash [][]int, code []api.Instr) *graph {
	g := &graph{clash: clash, uses: make([]int, len(clash)), aside: make([]bool, len(clash))}
	for _, others := range clash {
		g.rest = append(g.rest, len(others))
	}
	for _, order := range code {
		for _, register := range live.Reads(order) {
			g.uses[register]++
		}
		if register, is := live.Writes(order); is {
			g.uses[register]++
		}
	}
	return g
}

// colours lays the registers aside one by one and takes them back from the last one on: what was laid aside while few clashed with it finds a colour then.
func (g *graph) colours() []int {
	var pile []int
	for range g.clash {
		register := g.next()
		g.layAside(register)
		pile = append(pile, register)
	}
	found := slices.Repeat([]int{spilt}, len(g.clash))
	for _, register := range slices.Backward(pile) {
		found[register] = firstFree(g.clash[register], found)
	}
	return found
}

// next is the register to be laid aside: one that will find a colour for sure, or the one that costs least to spill.
func (g *graph) next() int {
	best := -1
	for register := range g.clash {
		switch {
		case g.aside[register]:
		case g.rest[register] < api.FreeRegs:
			return register
		case best < 0 || g.cheaper(register, best):
			best = register
		}
	}
	return best
}

// cheaper tells whether a register is used less than another one, for each register that has more room without it.
func (g *graph) cheaper(register, other int) bool {
	return g.uses[register]*g.rest[other] < g.uses[other]*g.rest[register]
}

func (g *graph) layAside(register int) {
	g.aside[register] = true
	for _, other := range g.clash[register] {
		g.rest[other]--
	}
}

// firstFree is the least colour that none of these others has, or spilt.
func firstFree(others, colours []int) int {
	var taken [api.FreeRegs]bool
	for _, other := range others {
		if colour := colours[other]; colour != spilt {
			taken[colour] = true
		}
	}
	for colour, is := range taken {
		if !is {
			return colour
		}
	}
	return spilt
}
