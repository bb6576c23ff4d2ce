package syntax

import (
	"strconv"
	"strings"

	"sluice/api"
)

// printer writes nodes in the one form.
type printer struct {
	strings.Builder
	nodes []api.Node
	tabs  int // how many blocks are around
}

// put writes texts, one behind the other.
func (p *printer) put(texts ...string) {
	for _, text := range texts {
		p.WriteString(text)
	}
}

func (p *printer) indent() {
	for range p.tabs {
		p.WriteByte('\t')
	}
}

func (p *printer) program() {
	for _, kid := range p.nodes[len(p.nodes)-1].Kids {
		n := p.nodes[kid]
		switch n.Kind {
		case api.NGlobal:
			p.global(n)
		case api.NLock:
			p.put("lock ", n.Text, ";")
		case api.NThread:
			p.put("thread ")
			p.block(n.Kids[0])
		}
		p.put("\n")
	}
}

func (p *printer) global(n api.Node) {
	p.put("int ", n.Text)
	if n.Num != 0 {
		p.put(" = ", strconv.Itoa(n.Num))
	}
	p.put(";")
}

// block writes lines from `{` to `}`; what stands ahead of `{` and behind `}` is the caller's.
func (p *printer) block(at int) {
	p.put("{\n")
	p.tabs++
	for _, kid := range p.nodes[at].Kids {
		p.indent()
		p.statement(p.nodes[kid])
		p.put("\n")
	}
	p.tabs--
	p.indent()
	p.put("}")
}

func (p *printer) statement(n api.Node) {
	switch n.Kind {
	case api.NLocal:
		p.put("int ", n.Text, " = ")
		p.list(n.Kids, ";")
	case api.NAssign:
		p.put(n.Text, " = ")
		p.list(n.Kids, ";")
	case api.NCas:
		p.put(n.Text, " = cas(")
		p.list(n.Kids, ");")
	case api.NPrint:
		p.put("print(")
		p.list(n.Kids, ");")
	case api.NTake:
		p.put("lock(", n.Text, ");")
	case api.NGive:
		p.put("unlock(", n.Text, ");")
	case api.NFence:
		p.put("fence;")
	case api.NWhile:
		p.guarded("while (", n.Kids)
	case api.NIf:
		p.guarded("if (", n.Kids)
	}
}

// guarded writes an expression, and the one or two blocks that hang on it.
func (p *printer) guarded(begin string, kids []int) {
	p.put(begin)
	p.expression(kids[0], anyLevel)
	p.put(") ")
	p.block(kids[1])
	if len(kids) > 2 {
		p.put(" else ")
		p.block(kids[2])
	}
}

// list writes expressions with commas between, and what ends them.
func (p *printer) list(kids []int, end string) {
	for i, kid := range kids {
		if i > 0 {
			p.put(", ")
		}
		p.expression(kid, anyLevel)
	}
	p.put(end)
}

// expression writes a node where the parser reads what signs of this level hold together: what binds less needs parentheses.
func (p *printer) expression(at, least int) {
	n := p.nodes[at]
	if tightness(n) < least {
		p.put("(")
		p.bare(n)
		p.put(")")
		return
	}
	p.bare(n)
}

func (p *printer) bare(n api.Node) {
	switch n.Kind {
	case api.NNumber:
		p.put(strconv.Itoa(n.Num))
	case api.NName:
		p.put(n.Text)
	case api.NNeg:
		p.put("-")
		p.expression(n.Kids[0], aheadLevel)
	case api.NNot:
		p.put("!")
		p.expression(n.Kids[0], aheadLevel)
	case api.NBinary:
		level := levelOf(n.Text)
		p.expression(n.Kids[0], level)
		p.put(" ", n.Text, " ")
		p.expression(n.Kids[1], level+1)
	}
}

// tightness tells how tightly an expression holds together.
func tightness(n api.Node) int {
	if n.Kind == api.NBinary {
		return levelOf(n.Text)
	}
	return aheadLevel
}
