package live

import (
	"math/bits"

	"sluice/api"
)

// wide is how many registers one number of a set stands for.
const wide = 64

// set has a bit for each register that a program may have; sets of the same registers are the same array.
type set [(api.MaxRegs + wide - 1) / wide]uint64

func (s set) with(registers ...int) set {
	for _, r := range registers {
		s[r/wide] |= 1 << (r % wide)
	}
	return s
}

func (s set) without(register int) set {
	s[register/wide] &^= 1 << (register % wide)
	return s
}

// joined has all registers of both sets.
func (s set) joined(other set) set {
	for i, b := range other {
		s[i] |= b
	}
	return s
}

// list tells the registers of a set, rising.
func (s set) list() []int {
	var registers []int
	for i, rest := range s {
		for rest != 0 {
			lowest := bits.TrailingZeros64(rest)
			registers = append(registers, i*wide+lowest)
			rest &^= 1 << lowest
		}
	}
	return registers
}
