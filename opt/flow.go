package opt

import (
	"sluice/api"
	"sluice/asm"
	"sluice/live"
	"sluice/sc"
)

// spot is a register ahead of an order, or behind the last one.
type spot struct{ at, register int }

// flow tells what a thread's registers hold ahead of each of its orders, and of behind the last one.
type flow struct {
	code  []api.Instr
	regs  int
	ahead []map[int]value // by registers; nothing stands there for an order that does not go
	open  []spot          // whose values became greater, which was not handed on yet
}

// follow goes on from order 0, where all registers hold 0, until no value becomes greater any more.
// It begins with values that are not there, so what it comes to is the least.
func follow(code []api.Instr, regs int) *flow {
	f := &flow{code: code, regs: regs}
	for range len(code) + 1 {
		f.ahead = append(f.ahead, map[int]value{})
	}
	for register := range regs {
		f.meet(spot{0, register}, alwaysThe(0))
	}
	for len(f.open) > 0 {
		last := len(f.open) - 1
		s := f.open[last]
		f.open = f.open[:last]
		if s.at < len(code) {
			f.handOn(s)
		}
	}
	return f
}

// meet lets a value come to a spot.
func (f *flow) meet(s spot, v value) {
	was := f.ahead[s.at][s.register]
	if now := was.joined(v); now != was {
		f.ahead[s.at][s.register] = now
		f.open = append(f.open, s)
	}
}

// handOn lets come to the next orders what hangs on the value at a spot.
// All else was handed on before, so that a spot costs little, however many registers there are.
func (f *flow) handOn(s spot) {
	order, ahead := f.code[s.at], f.ahead[s.at]
	for _, next := range ways(order, s.at, ahead) {
		f.meet(spot{next, s.register}, behind(order, ahead, s.register))
		if written, is := live.Writes(order); is {
			f.meet(spot{next, written}, behind(order, ahead, written))
		}
		if order.Op == api.OpZero && order.A == s.register {
			f.handOnAll(ahead, next)
		}
	}
}

// handOnAll is for a way that may be new, as all that came ahead of it has still to go there.
func (f *flow) handOnAll(ahead map[int]value, next int) {
	for register := range f.regs {
		f.meet(spot{next, register}, ahead[register])
	}
}

// ways tells where a thread can go on behind an order, by what is known ahead of it.
func ways(order api.Instr, at int, ahead map[int]value) []int {
	if order.Op != api.OpZero {
		return asm.Next(order, at)
	}
	asked := ahead[order.A]
	switch {
	case asked.kind == notThere:
		return nil
	case asked.kind == anything:
		return asm.Next(order, at)
	case asked == alwaysThe(0):
		return []int{order.B}
	}
	return []int{at + 1}
}

// behind is what a register holds behind an order.
func behind(order api.Instr, ahead map[int]value, register int) value {
	if written, is := live.Writes(order); is && written == register {
		return made(order, ahead)
	}
	return ahead[register]
}

// made is what the register becomes that an order writes.
func made(order api.Instr, ahead map[int]value) value {
	switch {
	case order.Op == api.OpConst:
		return alwaysThe(order.B)
	case reckons(order.Op):
		return reckoned(order, ahead)
	}
	return value{kind: anything}
}

// reckons tells whether an order makes something of registers alone.
func reckons(op int) bool {
	return op >= api.OpMove && op <= api.OpSame
}

// reckoned is what an order makes of the registers that it reads.
func reckoned(order api.Instr, ahead map[int]value) value {
	b, c := ahead[order.B], ahead[order.C]
	if order.Op == api.OpMove {
		// Its C is no register.
		c = b
	}
	switch {
	case b.kind == notThere || c.kind == notThere:
		return value{}
	case b.kind == anything || c.kind == anything:
		return value{kind: anything}
	}
	return alwaysThe(sc.Reckon(order.Op, b.number, c.number))
}
