package syntax

import "sluice/api"

// expression reads as much as signs of this level, and of tighter ones, hold together.
func (p *parser) expression(least int) int {
	left := p.ahead()
	for {
		sign := p.next()
		level := levelOf(sign.Text)
		if level < least {
			return left
		}
		p.take()
		// Another sign of the same level has to find this one on its left.
		right := p.expression(level + 1)
		left = p.add(api.Node{Kind: api.NBinary, At: sign.At, Text: sign.Text, Kids: []int{left, right}})
	}
}

// ahead reads signs that stand ahead, if there are any, and what they stand ahead of.
func (p *parser) ahead() int {
	switch p.next().Text {
	case "-":
		return p.signed(api.NNeg)
	case "!":
		return p.signed(api.NNot)
	}
	return p.primary()
}

func (p *parser) signed(kind int) int {
	p.open()
	sign := p.take()
	kid := p.ahead()
	p.shut()
	return p.add(api.Node{Kind: kind, At: sign.At, Kids: []int{kid}})
}

func (p *parser) primary() int {
	switch {
	case p.next().Kind == api.Number:
		number := p.take()
		return p.add(api.Node{Kind: api.NNumber, At: number.At, Num: number.Num})
	case p.is("("):
		p.words("(")
		kid := p.expression(anyLevel)
		p.words(")")
		return kid
	}
	return p.name()
}

func (p *parser) name() int {
	name := p.kind(api.Name)
	return p.add(api.Node{Kind: api.NName, At: name.At, Text: name.Text})
}
