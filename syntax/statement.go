package syntax

import "sluice/api"

func (p *parser) statement() int {
	first := p.next()
	if first.Kind == api.Name {
		return p.assign()
	}
	switch first.Text {
	case "int":
		return p.local()
	case "if":
		return p.choice()
	case "while":
		return p.loop()
	case "print":
		return p.print()
	case "lock":
		return p.ofLock(api.NTake)
	case "unlock":
		return p.ofLock(api.NGive)
	case "fence":
		p.words("fence", ";")
		return p.add(api.Node{Kind: api.NFence, At: first.At})
	}
	panic(p.fault(api.ErrSyntax))
}

// assign reads what begins with a name: what is set is an expression, or whether a cas was done.
func (p *parser) assign() int {
	name := p.take()
	n := api.Node{Kind: api.NAssign, At: name.At, Text: name.Text}
	p.words("=")
	if p.is("cas") {
		n.Kind, n.Kids = api.NCas, p.cas()
	} else {
		n.Kids = []int{p.expression(anyLevel)}
	}
	p.words(";")
	return p.add(n)
}

// cas tells the kids: of the global, of what it is held against, of what it becomes.
func (p *parser) cas() []int {
	p.words("cas", "(")
	global := p.name()
	p.words(",")
	old := p.expression(anyLevel)
	p.words(",")
	becomes := p.expression(anyLevel)
	p.words(")")
	return []int{global, old, becomes}
}

func (p *parser) local() int {
	n := api.Node{Kind: api.NLocal, At: p.next().At}
	p.words("int")
	n.Text = p.kind(api.Name).Text
	p.words("=")
	n.Kids = []int{p.expression(anyLevel)}
	p.words(";")
	return p.add(n)
}

func (p *parser) choice() int {
	n := api.Node{Kind: api.NIf, At: p.next().At}
	n.Kids = p.guarded("if")
	if p.is("else") {
		p.words("else")
		n.Kids = append(n.Kids, p.block())
	}
	return p.add(n)
}

func (p *parser) loop() int {
	n := api.Node{Kind: api.NWhile, At: p.next().At}
	n.Kids = p.guarded("while")
	return p.add(n)
}

// guarded reads a word, an expression in parentheses, and the block that hangs on it.
func (p *parser) guarded(word string) []int {
	guard := p.within(word)
	return []int{guard, p.block()}
}

// within reads a word, and the expression in parentheses behind it.
func (p *parser) within(word string) int {
	p.words(word, "(")
	kid := p.expression(anyLevel)
	p.words(")")
	return kid
}

func (p *parser) print() int {
	n := api.Node{Kind: api.NPrint, At: p.next().At}
	n.Kids = []int{p.within("print")}
	p.words(";")
	return p.add(n)
}

// ofLock reads what takes a lock or gives it back; the word that tells which is next.
func (p *parser) ofLock(kind int) int {
	n := api.Node{Kind: kind, At: p.take().At}
	p.words("(")
	n.Text = p.kind(api.Name).Text
	p.words(")", ";")
	return p.add(n)
}
