package alloc

import (
	"sluice/api"
	"sluice/live"
)

// Colours are less than FreeRegs, so these two are at hand for what is spilt:
// the first register that an order reads, or the one that it writes, and the second one that it reads.
const (
	first  = api.FreeRegs
	second = api.FreeRegs + 1
)

// owned is a register of a thread.
type owned struct{ thread, register int }

// brush has what stands for each register: a colour, or a word.
type brush struct {
	code    [][]api.Instr
	colours [][]int
	words   map[owned]int
}

func newBrush(p api.Program, colours [][]int) brush {
	words := map[owned]int{}
	for thread, list := range colours {
		for register, colour := range list {
			if colour == spilt {
				words[owned{thread, register}] = len(p.Words) + len(words)
			}
		}
	}
	return brush{p.Code, colours, words}
}

// become tells what an order becomes: what it reads is fetched ahead of it, what it writes is kept behind it.
func (b brush) become(thread, at int) []api.Instr {
	old := b.code[thread][at]
	order := old
	reads, written := live.Uses(&order)
	var code, behind []api.Instr
	for i, register := range live.Reads(old) {
		hand := [...]int{first, second}[i]
		*reads[i] = b.seat(owned{thread, register}, hand)
		code = append(code, b.fetch(owned{thread, register}, hand)...)
	}
	if register, is := live.Writes(old); is {
		*written = b.seat(owned{thread, register}, first)
		behind = b.keep(owned{thread, register})
	}
	return append(append(code, order), behind...)
}

// seat is the register where an order finds one of the thread's: the one at hand, if that is spilt.
func (b brush) seat(r owned, hand int) int {
	if colour := b.colours[r.thread][r.register]; colour != spilt {
		return colour
	}
	return hand
}

// fetch gets what a spilt register holds.
func (b brush) fetch(r owned, hand int) []api.Instr {
	if word, is := b.words[r]; is {
		return []api.Instr{{Op: api.OpLoad, A: hand, B: word}}
	}
	return nil
}

// keep puts away what a spilt register became.
func (b brush) keep(r owned) []api.Instr {
	if word, is := b.words[r]; is {
		return []api.Instr{{Op: api.OpStore, A: word, B: first}}
	}
	return nil
}
