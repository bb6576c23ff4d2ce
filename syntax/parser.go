package syntax

import (
	"slices"

	"sluice/api"
)

const noToken = 0 // the kind of what stands behind the last token

// parser goes through tokens from the left, and gives up by panic with the fault of the first one that cannot stand.
type parser struct {
	tokens []api.Token
	at     int // the token that is next
	depth  int // how many things are open
	nodes  []api.Node
}

func (p *parser) next() api.Token { return p.tokens[p.at] }

// fault is one of the token that is next.
func (p *parser) fault(code api.Errno) api.Fault {
	return api.Fault{Code: code, At: p.next().At}
}

// is tells whether one of these words or signs is next.
func (p *parser) is(texts ...string) bool {
	return slices.Contains(texts, p.next().Text)
}

// words asks for these words and signs, one behind the other.
func (p *parser) words(texts ...string) {
	for _, text := range texts {
		if !p.is(text) {
			panic(p.fault(api.ErrSyntax))
		}
		p.take()
	}
}

// kind asks for a token of this kind.
func (p *parser) kind(kind int) api.Token {
	if p.next().Kind != kind {
		panic(p.fault(api.ErrSyntax))
	}
	return p.take()
}

// take goes over a token that can stand where it does.
func (p *parser) take() api.Token {
	token := p.next()
	switch token.Text {
	case "(", "{":
		p.open()
	case ")", "}":
		p.shut()
	}
	p.at++
	return token
}

// open is called while the token that opens is still next, so that it is the one that is told.
func (p *parser) open() {
	if p.depth == api.MaxNest {
		panic(p.fault(api.ErrDeep))
	}
	p.depth++
}

func (p *parser) shut() { p.depth-- }

// add puts a node behind all that are there, its kids among them, and tells its number.
func (p *parser) add(n api.Node) int {
	p.nodes = append(p.nodes, n)
	return len(p.nodes) - 1
}

func (p *parser) program() {
	var kids []int
	for p.is("int", "lock") {
		kids = append(kids, p.global())
	}
	for p.is("thread") {
		kids = append(kids, p.thread())
	}
	if p.next().Kind != noToken {
		panic(p.fault(api.ErrSyntax))
	}
	p.add(api.Node{Kind: api.NProgram, Kids: kids})
	// Only here, as all other faults come first: none of them stands behind the text's length.
	if len(p.nodes) > api.MaxNodes {
		panic(p.fault(api.ErrFull))
	}
}

func (p *parser) global() int {
	first := p.take()
	n := api.Node{Kind: api.NGlobal, At: first.At, Text: p.kind(api.Name).Text}
	if first.Text == "lock" {
		n.Kind = api.NLock
	} else if p.is("=") {
		n.Num = p.firstNumber()
	}
	p.words(";")
	return p.add(n)
}

// firstNumber is what a global holds at first.
func (p *parser) firstNumber() int {
	p.words("=")
	if p.is("-") {
		p.words("-")
		return -p.kind(api.Number).Num
	}
	return p.kind(api.Number).Num
}

func (p *parser) thread() int {
	first := p.take()
	block := p.block()
	return p.add(api.Node{Kind: api.NThread, At: first.At, Kids: []int{block}})
}

func (p *parser) block() int {
	n := api.Node{Kind: api.NBlock, At: p.next().At}
	p.words("{")
	for !p.is("}") {
		n.Kids = append(n.Kids, p.statement())
	}
	p.words("}")
	return p.add(n)
}
