package syntax_test

import (
	"slices"
	"strconv"
	"strings"

	"sluice/api"
)

// tree is a program that was thought of ahead of its text.
type tree struct {
	kind, num int
	text      string
	kids      []tree
}

// maker thinks of trees.
type maker struct {
	*dice
	size int // how much there may still be, about
}

func (m *maker) name() string {
	list := []string{"x", "y", "z", "_", "m", "a1", "ab_2", "abcdefghijkl", "intx", "iff"}
	return list[m.below(len(list))]
}

func (m *maker) program() tree {
	p := tree{kind: api.NProgram}
	for range m.below(4) {
		if m.below(3) == 0 {
			p.kids = append(p.kids, tree{kind: api.NLock, text: m.name()})
			continue
		}
		p.kids = append(p.kids, tree{kind: api.NGlobal, text: m.name(), num: m.below(3) * (m.below(21) - 10)})
	}
	for range m.below(4) {
		p.kids = append(p.kids, tree{kind: api.NThread, kids: []tree{m.block(3)}})
	}
	return p
}

func (m *maker) block(deep int) tree {
	b := tree{kind: api.NBlock}
	for range m.below(5) {
		if m.size--; m.size > 0 {
			b.kids = append(b.kids, m.statement(deep))
		}
	}
	return b
}

func (m *maker) statement(deep int) tree {
	switch kind := []int{6, 7, 8, 9, 10, 11, 12, 13, 14}[m.below(9)]; kind {
	case api.NLocal, api.NAssign:
		return tree{kind: kind, text: m.name(), kids: []tree{m.expression(4)}}
	case api.NCas:
		return tree{kind: kind, text: m.name(), kids: []tree{{kind: api.NName, text: m.name()}, m.expression(3), m.expression(3)}}
	case api.NIf, api.NWhile:
		if deep == 0 {
			return tree{kind: api.NFence}
		}
		n := tree{kind: kind, kids: []tree{m.expression(3), m.block(deep - 1)}}
		if kind == api.NIf && m.below(2) == 0 {
			n.kids = append(n.kids, m.block(deep-1))
		}
		return n
	case api.NPrint:
		return tree{kind: kind, kids: []tree{m.expression(4)}}
	case api.NTake, api.NGive:
		return tree{kind: kind, text: m.name()}
	}
	return tree{kind: api.NFence}
}

func (m *maker) expression(deep int) tree {
	m.size--
	kind := m.below(8)
	switch {
	case deep == 0 || m.size < 0 || kind == 0:
		if m.below(2) == 0 {
			return tree{kind: api.NName, text: m.name()}
		}
		return tree{kind: api.NNumber, num: []int{0, 1, 7, 10, 999999999}[m.below(5)]}
	case kind == 1:
		return tree{kind: api.NNeg, kids: []tree{m.expression(deep - 1)}}
	case kind == 2:
		return tree{kind: api.NNot, kids: []tree{m.expression(deep - 1)}}
	}
	sign := between()[m.below(len(between()))]
	return tree{kind: api.NBinary, text: sign, kids: []tree{m.expression(deep - 1), m.expression(deep - 1)}}
}

// forms have T for the text, N for the number, digits for kids, * for all of them.
func form(n tree) string {
	switch n.kind {
	case api.NGlobal:
		switch {
		case n.num < 0:
			return "int T = - N ;"
		case n.num == 0 && len(n.text) > 1:
			return "int T ;"
		}
		return "int T = N ;"
	case api.NIf:
		if len(n.kids) == 3 {
			return "if ( 0 ) 1 else 2"
		}
	}
	return [...]string{
		api.NProgram: "*", api.NLock: "lock T ;", api.NThread: "thread 0", api.NBlock: "{ * }",
		api.NLocal: "int T = 0 ;", api.NAssign: "T = 0 ;", api.NCas: "T = cas ( 0 , 1 , 2 ) ;",
		api.NIf: "if ( 0 ) 1", api.NWhile: "while ( 0 ) 1", api.NPrint: "print ( 0 ) ;",
		api.NTake: "lock ( T ) ;", api.NGive: "unlock ( T ) ;", api.NFence: "fence ;",
		api.NNumber: "N", api.NName: "T", api.NNeg: "- 0", api.NNot: "! 0", api.NBinary: "0 T 1",
	}[n.kind]
}

// How a writer writes parentheses.
const (
	everywhere = 0 // around each expression
	sometimes  = 1 // where they have to be, and now and then elsewhere
)

// writer tells a tree's text, and the nodes that have to come of it.
type writer struct {
	*dice
	parens, gaps int // gaps: 0 for none but where they have to be
	text         strings.Builder
	nodes        []api.Node
}

// token writes one, with a gap ahead of it, and tells its place.
func (w *writer) token(text string) int {
	all := []string{"", "", " ", "\t", "\r\n", "\n", " // note { ( &\n", "  "}
	gap := ""
	if w.gaps > 0 {
		gap = all[w.below(len(all))]
	}
	if before := w.text.String(); gap == "" && before != "" && isLong(before[len(before)-1]) && isLong(text[0]) {
		gap = " "
	}
	w.text.WriteString(gap)
	at := w.text.Len()
	w.text.WriteString(text)
	return at
}

func isLong(b byte) bool {
	return b == '_' || b >= 'a' && b <= 'z' || b >= '0' && b <= '9'
}

func (w *writer) write(n tree) int {
	node := api.Node{Kind: n.kind, At: -1}
	for _, part := range strings.Fields(form(n)) {
		at := -1
		switch {
		case part == "*":
			for _, kid := range n.kids {
				node.Kids = append(node.Kids, w.write(kid))
			}
		case part == "T":
			node.Text, at = n.text, w.token(n.text)
		case part == "N":
			node.Num, at = n.num, w.token(strings.TrimPrefix(strconv.Itoa(n.num), "-"))
		case isLong(part[0]) && part[0] <= '9':
			node.Kids = append(node.Kids, w.kid(n, int(part[0]-'0')))
		default:
			at = w.token(part)
		}
		if node.At < 0 {
			node.At = at
		}
	}
	if n.kind == api.NProgram {
		node.At = 0
	}
	w.nodes = append(w.nodes, node)
	return len(w.nodes) - 1
}

func (w *writer) kid(n tree, i int) int {
	kid := n.kids[i]
	if kid.kind < api.NNumber || n.kind == api.NCas && i == 0 {
		return w.write(kid)
	}
	pairs := 0
	if w.parens == everywhere || hasTo(n, kid, i) {
		pairs = 1
	}
	if w.parens == sometimes && w.below(5) == 0 {
		pairs++
	}
	for range pairs {
		w.token("(")
	}
	at := w.write(kid)
	for range pairs {
		w.token(")")
	}
	return at
}

// hasTo tells whether a kid of an expression has to stand in parentheses.
func hasTo(n, kid tree, i int) bool {
	if kid.kind != api.NBinary || n.kind < api.NNeg {
		return false
	}
	if n.kind != api.NBinary {
		return true
	}
	return level(kid.text) < level(n.text) || i == 1 && level(kid.text) == level(n.text)
}

// level tells how tightly a sign between binds.
func level(sign string) int {
	return slices.IndexFunc([]string{" || ", " && ", " == != < <= > >= ", " + - ", " * "}, func(list string) bool {
		return strings.Contains(list, " "+sign+" ")
	})
}
