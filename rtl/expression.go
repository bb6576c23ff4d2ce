package rtl

import "sluice/api"

// expression evaluates a node to a register; what those behind it hold is not needed any more.
func (m *maker) expression(at, to int) {
	n := m.Nodes[at]
	switch n.Kind {
	case api.NNumber:
		m.put(api.OpConst, to, n.Num)
	case api.NName:
		m.name(m.Owners[at], to)
	case api.NNeg:
		m.expression(n.Kids[0], to)
		m.put(api.OpConst, to+1, 0)
		m.put(api.OpSub, to, to+1, to)
	case api.NNot:
		m.expression(n.Kids[0], to)
		m.not(to)
	case api.NBinary:
		m.binary(n, to)
	}
}

// name fetches what a local or a global, told by its node, holds.
func (m *maker) name(owner, to int) {
	if register, ok := m.registers[owner]; ok {
		m.put(api.OpMove, to, register)
	} else {
		m.put(api.OpLoad, to, m.words[owner])
	}
}

// not makes 1 of a 0, and 0 of all else.
func (m *maker) not(to int) {
	m.put(api.OpConst, to+1, 0)
	m.put(api.OpSame, to, to, to+1)
}

func (m *maker) binary(n api.Node, to int) {
	m.expression(n.Kids[0], to)
	switch n.Text {
	case "&&":
		m.and(n.Kids[1], to)
	case "||":
		m.or(n.Kids[1], to)
	default:
		m.expression(n.Kids[1], to+1)
		m.reckon(n.Text, to)
	}
}

// reckon puts what a sign makes of its two sides, which were evaluated to this register and to the next one.
func (m *maker) reckon(sign string, to int) {
	switch sign {
	case "+":
		m.put(api.OpAdd, to, to, to+1)
	case "-":
		m.put(api.OpSub, to, to, to+1)
	case "*":
		m.put(api.OpMul, to, to, to+1)
	case "==", "!=":
		m.put(api.OpSame, to, to, to+1)
	case "<", ">=":
		m.put(api.OpLess, to, to, to+1)
	case ">", "<=":
		m.put(api.OpLess, to, to+1, to)
	}
	switch sign {
	case "!=", ">=", "<=":
		// No order tells these, but one tells when they do not hold.
		m.not(to)
	}
}

// and evaluates the right side where the left one is not 0.
func (m *maker) and(right, to int) {
	left := m.zero(to)
	m.expression(right, to)
	both := m.zero(to)
	m.put(api.OpConst, to, 1)
	end := m.jump()
	m.land(left, both)
	m.put(api.OpConst, to, 0)
	m.land(end)
}

// or evaluates the right side where the left one is 0.
func (m *maker) or(right, to int) {
	undecided := m.zero(to)
	m.put(api.OpConst, to, 1)
	decided := m.jump()
	m.land(undecided)
	m.expression(right, to)
	none := m.zero(to)
	m.put(api.OpConst, to, 1)
	end := m.jump()
	m.land(none)
	m.put(api.OpConst, to, 0)
	m.land(decided, end)
}
