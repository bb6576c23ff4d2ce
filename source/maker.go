package source

import (
	"sluice/api"
	"sluice/check"
)

// maker puts together the orders of a thread.
type maker struct {
	check.Program
	places map[int]int // of each global and each lock, by its node: its place among those of its kind
	orders []order
}

// thread is that of a block, gone on to its first mark.
func (m *maker) thread(block int) thread {
	m.orders = nil
	m.block(block)
	t := thread{orders: m.orders, locals: map[int]int{}}
	t.goOn()
	return t
}

func (m *maker) put(k kind, num int) {
	m.orders = append(m.orders, order{k, num})
}

// open puts a jump that does not know yet where it leads, and tells its place.
func (m *maker) open(k kind) int {
	m.put(k, 0)
	return len(m.orders) - 1
}

// land lets a jump lead to what is put next.
func (m *maker) land(jump int) {
	m.orders[jump].num = len(m.orders)
}

// block puts statements, behind which what they made is there no more.
func (m *maker) block(at int) {
	kids := m.Nodes[at].Kids
	for _, kid := range kids {
		m.statement(kid)
	}
	for _, kid := range kids {
		if m.Nodes[kid].Kind == api.NLocal {
			m.put(leave, kid)
		}
	}
}

func (m *maker) statement(at int) {
	n := m.Nodes[at]
	m.put(begin, 0)
	switch n.Kind {
	case api.NLocal:
		m.expression(n.Kids[0])
		m.put(set, at)
	case api.NAssign:
		m.expression(n.Kids[0])
		m.assign(at)
	case api.NCas:
		m.expression(n.Kids[1])
		m.expression(n.Kids[2])
		m.put(swap, m.placeOf(n.Kids[0]))
		m.assign(at)
	case api.NIf:
		m.branch(n.Kids)
	case api.NWhile:
		m.loop(n.Kids[0], n.Kids[1])
	case api.NPrint:
		m.expression(n.Kids[0])
		m.put(show, 0)
	case api.NTake:
		m.put(take, m.placeOf(at))
	case api.NGive:
		m.put(give, m.placeOf(at))
	case api.NFence:
		m.put(fence, 0)
	}
}

// placeOf is that of the global or the lock whose name a node has.
func (m *maker) placeOf(at int) int {
	return m.places[m.Owners[at]]
}

func (m *maker) isGlobal(at int) bool {
	return m.Nodes[m.Owners[at]].Kind == api.NGlobal
}

// assign sets what the name of a node is of.
func (m *maker) assign(at int) {
	if m.isGlobal(at) {
		m.put(write, m.placeOf(at))
	} else {
		m.put(set, m.Owners[at])
	}
}

func (m *maker) branch(kids []int) {
	m.expression(kids[0])
	otherwise := m.open(zero)
	m.block(kids[1])
	if len(kids) == 2 {
		m.land(otherwise)
		return
	}
	end := m.open(jump)
	m.land(otherwise)
	m.block(kids[2])
	m.land(end)
}

func (m *maker) loop(condition, block int) {
	// The loop itself is begun once, its condition each time.
	again := len(m.orders)
	m.expression(condition)
	end := m.open(zero)
	m.block(block)
	m.put(jump, again)
	m.land(end)
}

func (m *maker) expression(at int) {
	n := m.Nodes[at]
	m.put(begin, 0)
	switch n.Kind {
	case api.NNumber:
		m.put(number, n.Num)
	case api.NName:
		m.name(at)
	case api.NNeg:
		m.expression(n.Kids[0])
		m.put(negate, 0)
	case api.NNot:
		m.expression(n.Kids[0])
		m.put(not, 0)
	case api.NBinary:
		m.binary(n)
	}
}

func (m *maker) name(at int) {
	if m.isGlobal(at) {
		m.put(read, m.placeOf(at))
	} else {
		m.put(local, m.Owners[at])
	}
}

func (m *maker) binary(n api.Node) {
	m.expression(n.Kids[0])
	switch n.Text {
	case "&&":
		m.and(n.Kids[1])
	case "||":
		m.or(n.Kids[1])
	default:
		m.expression(n.Kids[1])
		m.put(between(n.Text), 0)
	}
}

// and puts the right side so that a 0 on the left one passes it by.
func (m *maker) and(right int) {
	no := m.open(zero)
	m.expression(right)
	m.put(truth, 0)
	end := m.open(jump)
	m.land(no)
	m.put(number, 0)
	m.land(end)
}

// or puts the right side so that a 0 on the left one alone leads there.
func (m *maker) or(right int) {
	undecided := m.open(zero)
	m.put(number, 1)
	end := m.open(jump)
	m.land(undecided)
	m.expression(right)
	m.put(truth, 0)
	m.land(end)
}
