package check_test

import (
	"slices"
	"strconv"
	"strings"

	"sluice/api"
	"sluice/syntax"
)

// The functions here are a second writing of the chapter, with no walk and no scopes: whose name it is is asked
// of all nodes ahead by what is around them; all faults are told, and the first one is taken of them.

// asked is a program of which each node has the one whose kid it is.
type asked struct {
	nodes  []api.Node
	parent []int
}

func newAsked(nodes []api.Node) asked {
	a := asked{nodes, make([]int, len(nodes))}
	a.parent[len(nodes)-1] = -1
	for i, n := range nodes {
		for _, kid := range n.Kids {
			a.parent[kid] = i
		}
	}
	return a
}

// around tells whether a node is another one, or has it somewhere below.
func (a asked) around(outer, i int) bool {
	for ; i >= 0; i = a.parent[i] {
		if i == outer {
			return true
		}
	}
	return false
}

// visible tells whether what a node makes is there at another one.
func (a asked) visible(maker, i int) bool {
	switch a.nodes[maker].Kind {
	case api.NGlobal, api.NLock, api.NLocal:
		return maker < i && a.nodes[maker].Text == a.nodes[i].Text && a.around(a.parent[maker], i)
	}
	return false
}

// owner is the last node ahead whose name is there: what is nearer stands behind all that is farther away.
func (a asked) owner(i int) int {
	for maker := i - 1; maker >= 0; maker-- {
		if a.visible(maker, i) {
			return maker
		}
	}
	return -1
}

// uses tells whether a node has a name that another one makes.
func uses(kind int) bool {
	return slices.Contains([]int{api.NName, api.NAssign, api.NCas, api.NTake, api.NGive}, kind)
}

// faults are all that a node has, in the order in which they are named.
func (a asked) faults(i int) []api.Errno {
	var list []api.Errno
	n := a.nodes[i]
	same := 0 // of its kind ahead of it
	for j := range i {
		if a.nodes[j].Kind == n.Kind {
			same++
		}
		outer := n.Kind != api.NLocal && (a.nodes[j].Kind == api.NGlobal || a.nodes[j].Kind == api.NLock)
		inner := n.Kind == api.NLocal && a.nodes[j].Kind == api.NLocal && a.parent[j] == a.parent[i]
		if (outer || inner) && !uses(n.Kind) && n.Text != "" && a.nodes[j].Text == n.Text {
			list = append(list, api.ErrTwice)
		}
	}
	if n.Kind == api.NGlobal && same >= 16 || n.Kind == api.NLock && same >= 4 || n.Kind == api.NThread && same >= 4 {
		list = append(list, api.ErrSize)
	}
	if uses(n.Kind) {
		list = append(list, a.misused(i)...)
	}
	slices.SortStableFunc(list, func(x, y api.Errno) int { return rank(x) - rank(y) })
	return list
}

func (a asked) misused(i int) []api.Errno {
	owner := a.owner(i)
	if owner < 0 {
		return []api.Errno{api.ErrName}
	}
	lock := a.nodes[owner].Kind == api.NLock
	ofLock := a.nodes[i].Kind == api.NTake || a.nodes[i].Kind == api.NGive
	up := a.nodes[a.parent[i]]
	shared := up.Kind == api.NCas && up.Kids[0] == i
	if lock != ofLock || shared && a.nodes[owner].Kind == api.NLocal {
		return []api.Errno{api.ErrType}
	}
	return nil
}

func rank(code api.Errno) int {
	return slices.Index([]api.Errno{api.ErrTwice, api.ErrSize, api.ErrName, api.ErrType}, code)
}

// checked tells what Check has to answer.
func checked(text string) ([]int, api.Fault) {
	nodes, fault := syntax.Parse(text)
	if fault.Code != api.OK {
		return nil, fault
	}
	a := newAsked(nodes)
	var owners []int
	threads := 0
	for i, n := range nodes {
		if list := a.faults(i); len(list) > 0 {
			return nil, api.Fault{Code: list[0], At: n.At}
		}
		owner := -1
		if uses(n.Kind) {
			owner = a.owner(i)
		}
		owners = append(owners, owner)
		if n.Kind == api.NThread {
			threads++
		}
	}
	if threads == 0 {
		return nil, api.Fault{Code: api.ErrSize}
	}
	return owners, api.Fault{}
}

// dice gives numbers that are the same each time, and look as if they were not.
type dice uint64

func (d *dice) below(n int) int {
	*d = *d*6364136223846793005 + 1442695040888963407
	return int(uint64(*d)>>33) % n
}

// maker writes programs that can be read; which names it takes is not asked, so that many of them may not be.
type maker struct {
	*dice
	names []string
	text  strings.Builder
	left  int // statements
}

func (m *maker) name() string { return m.names[m.below(len(m.names))] }

func (m *maker) put(list ...string) {
	for _, s := range list {
		m.text.WriteString(s)
	}
}

func (m *maker) program() string {
	for range m.below(5) {
		m.put([]string{"int ", "int ", "lock "}[m.below(3)], m.name(), ";")
	}
	for range 1 + m.below(3) {
		m.put("thread")
		m.block(3)
	}
	return m.text.String()
}

func (m *maker) block(deep int) {
	m.put("{")
	for range m.below(4) {
		if m.left--; m.left >= 0 {
			m.statement(deep)
		}
	}
	m.put("}")
}

func (m *maker) statement(deep int) {
	kind := m.below(9)
	if deep == 0 && kind < 2 {
		kind = 2
	}
	switch kind {
	case 0:
		m.put("if(", m.expression(2), ")")
		m.block(deep - 1)
		if m.below(2) == 0 {
			m.put("else")
			m.block(deep - 1)
		}
	case 1:
		m.put("while(", m.expression(2), ")")
		m.block(deep - 1)
	case 2, 3, 4:
		m.put("int ", m.name(), "=", m.expression(2), ";")
	case 5:
		m.put(m.name(), "=", m.expression(2), ";")
	case 6:
		m.put(m.name(), "=cas(", m.name(), ",", m.expression(1), ",", m.expression(1), ");")
	case 7:
		m.put("print(", m.expression(2), ");")
	case 8:
		m.put([]string{"lock(", "unlock("}[m.below(2)], m.name(), ");")
	}
}

func (m *maker) expression(deep int) string {
	switch kind := m.below(5); {
	case deep == 0 || kind < 2:
		if m.below(3) == 0 {
			return m.name()
		}
		return strconv.Itoa(m.below(10))
	case kind == 2:
		return []string{"-", "!"}[m.below(2)] + m.expression(deep-1)
	}
	return "(" + m.expression(deep-1) + []string{"+", "&&", "<"}[m.below(3)] + m.expression(deep-1) + ")"
}
