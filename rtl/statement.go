package rtl

import "sluice/api"

func (m *maker) block(at int) {
	for _, kid := range m.Nodes[at].Kids {
		m.statement(kid)
	}
}

func (m *maker) statement(at int) {
	n := m.Nodes[at]
	switch n.Kind {
	case api.NLocal:
		m.expression(n.Kids[0], m.first())
		m.set(at)
	case api.NAssign:
		m.expression(n.Kids[0], m.first())
		m.set(m.Owners[at])
	case api.NCas:
		m.cas(n.Kids)
		m.set(m.Owners[at])
	case api.NIf:
		m.branch(n.Kids)
	case api.NWhile:
		m.loop(n.Kids[0], n.Kids[1])
	case api.NPrint:
		m.expression(n.Kids[0], m.first())
		m.put(api.OpPrint, m.first())
	case api.NTake:
		m.put(api.OpLock, m.locks[m.Owners[at]])
	case api.NGive:
		m.put(api.OpUnlock, m.locks[m.Owners[at]])
	case api.NFence:
		m.put(api.OpFence)
	}
}

// set gives a local or a global, told by its node, what was evaluated.
func (m *maker) set(owner int) {
	if register, ok := m.registers[owner]; ok {
		m.put(api.OpMove, register, m.first())
	} else {
		m.put(api.OpStore, m.words[owner], m.first())
	}
}

// cas leaves whether the word was changed where what it was to hold was evaluated.
func (m *maker) cas(kids []int) {
	from, to := m.first(), m.first()+1
	m.expression(kids[1], from)
	m.expression(kids[2], to)
	m.put(api.OpCas, m.words[m.Owners[kids[0]]], from, to)
}

func (m *maker) branch(kids []int) {
	m.expression(kids[0], m.first())
	otherwise := m.zero(m.first())
	m.block(kids[1])
	if len(kids) == 2 {
		m.land(otherwise)
		return
	}
	end := m.jump()
	m.land(otherwise)
	m.block(kids[2])
	m.land(end)
}

func (m *maker) loop(condition, block int) {
	again := len(m.code)
	m.expression(condition, m.first())
	end := m.zero(m.first())
	m.block(block)
	m.put(api.OpJump, again)
	m.land(end)
}
