package syntax_test

import (
	"slices"
	"strings"

	"sluice/api"
	"sluice/lex"
)

// The functions here are a second writing of the chapter. Which token can stand where is asked of its table,
// as rules gone through all at once; depth and number of nodes are counted along the tokens, with no tree;
// so is the layout of what is printed.

// grammar is the chapter's table: a name, and what it can be; all else stands for itself.
const grammar = `
program = globals threads
globals =
globals = globals global
threads =
threads = threads thread
global = int NAME ;
global = int NAME = NUMBER ;
global = int NAME = - NUMBER ;
global = lock NAME ;
thread = thread_ block
block = { statements }
statements =
statements = statements statement
statement = int NAME = expression ;
statement = NAME = expression ;
statement = NAME = cas ( NAME , expression , expression ) ;
statement = if ( expression ) block
statement = if ( expression ) block else block
statement = while ( expression ) block
statement = print ( expression ) ;
statement = lock ( NAME ) ;
statement = unlock ( NAME ) ;
statement = fence ;
expression = ahead
expression = expression between ahead
ahead = NUMBER
ahead = NAME
ahead = ( expression )
ahead = - ahead
ahead = ! ahead
between = ||
between = &&
between = ==
between = !=
between = <
between = <=
between = >
between = >=
between = +
between = -
between = *
`

type rule struct {
	name  string
	parts []string
}

func rules() []rule {
	var all []rule
	for _, line := range strings.Split(strings.TrimSpace(grammar), "\n") {
		name, parts, _ := strings.Cut(line, " =")
		all = append(all, rule{name, strings.Fields(parts)})
	}
	return all
}

// item is a rule that was begun at a token, and of which some parts have been seen.
type item struct{ rule, seen, from int }

// recognizer has, ahead of each token and behind the last one, all that can be going on there.
type recognizer struct {
	all  []rule
	sets [][]item
}

func newRecognizer() *recognizer {
	r := &recognizer{all: rules()}
	r.sets = append(r.sets, r.grown([]item{{}}, 0))
	return r
}

// grown adds to a set all that follows from it, until nothing new does.
func (r *recognizer) grown(set []item, here int) []item {
	has := map[item]int{}
	for _, x := range set {
		has[x] = 1
	}
	for before := -1; before != len(set); {
		before = len(set)
		for i := 0; i < len(set); i++ {
			for _, x := range r.follow(set, set[i], here) {
				if has[x] == 0 {
					has[x] = 1
					set = append(set, x)
				}
			}
		}
	}
	return set
}

func (r *recognizer) follow(set []item, x item, here int) []item {
	var more []item
	if part := r.part(x); part != "" {
		for i, other := range r.all {
			if other.name == part {
				more = append(more, item{i, 0, here})
			}
		}
		return more
	}
	begun := set
	if x.from < here {
		begun = r.sets[x.from]
	}
	for _, y := range begun {
		if r.part(y) == r.all[x.rule].name {
			more = append(more, item{y.rule, y.seen + 1, y.from})
		}
	}
	return more
}

// part is what comes next of an item; "", if all has been seen.
func (r *recognizer) part(x item) string {
	if parts := r.all[x.rule].parts; x.seen < len(parts) {
		return parts[x.seen]
	}
	return ""
}

// step takes a token, and tells whether it can stand there; if not, nothing is changed.
func (r *recognizer) step(token api.Token) bool {
	var set []item
	for _, x := range r.sets[len(r.sets)-1] {
		if r.part(x) == terminal(token) {
			set = append(set, item{x.rule, x.seen + 1, x.from})
		}
	}
	if len(set) == 0 {
		return false
	}
	r.sets = append(r.sets, r.grown(set, len(r.sets)))
	return true
}

func (r *recognizer) back() { r.sets = r.sets[:len(r.sets)-1] }

// whole tells whether all that was taken is a program.
func (r *recognizer) whole() bool {
	return slices.Contains(r.sets[len(r.sets)-1], item{0, 2, 0})
}

func terminal(token api.Token) string {
	switch {
	case token.Kind == api.Name:
		return "NAME"
	case token.Kind == api.Number:
		return "NUMBER"
	case token.Text == "thread":
		return "thread_"
	}
	return token.Text
}

// faultOf tells the fault that Parse has to tell.
func faultOf(text string) api.Fault {
	tokens, fault := lex.Scan(text)
	if fault.Code != api.OK {
		return fault
	}
	r := newRecognizer()
	depths := depthsOf(tokens)
	for i, token := range tokens {
		if !r.step(token) {
			return api.Fault{Code: api.ErrSyntax, At: token.At}
		}
		if depths[i] > 20 {
			return api.Fault{Code: api.ErrDeep, At: token.At}
		}
	}
	if !r.whole() {
		return api.Fault{Code: api.ErrSyntax, At: len(text)}
	}
	if countNodes(tokens) > 600 {
		return api.Fault{Code: api.ErrFull, At: len(text)}
	}
	return api.Fault{}
}

// depthsOf tells of each token how many things are open behind it; it is right up to the first one that cannot stand.
func depthsOf(tokens []api.Token) []int {
	var depths []int
	var open []string
	for i, token := range tokens {
		switch {
		case token.Text == "(" || token.Text == "{" || token.Text == "!" || token.Text == "-" && !isBetween(tokens, i):
			open = append(open, token.Text)
		case (token.Text == ")" || token.Text == "}") && len(open) > 0:
			open = open[:len(open)-1]
		}
		for endsOperand(token) && len(open) > 0 && strings.Contains("-!", open[len(open)-1]) {
			open = open[:len(open)-1]
		}
		depths = append(depths, len(open))
	}
	return depths
}

func endsOperand(token api.Token) bool {
	return token.Kind == api.Name || token.Kind == api.Number || token.Text == ")"
}

// isBetween tells whether a token is a sign between two, as far as what stands ahead of it tells.
func isBetween(tokens []api.Token, i int) bool {
	return i > 0 && slices.Contains(between(), tokens[i].Text) && endsOperand(tokens[i-1])
}

func between() []string {
	return []string{"||", "&&", "==", "!=", "<", "<=", ">", ">=", "+", "-", "*"}
}

// countNodes tells how many nodes a program has: of each one just one token tells.
func countNodes(tokens []api.Token) int {
	count, threads := 1, 0
	for i, token := range tokens {
		if token.Text == "thread" {
			threads++
		}
		if tellsNode(tokens, i, threads > 0) {
			count++
		}
	}
	return count
}

func tellsNode(tokens []api.Token, i int, inThread bool) bool {
	switch token := tokens[i]; token.Kind {
	case api.Word:
		return token.Text != "else" && token.Text != "cas"
	case api.Number:
		return inThread
	case api.Sign:
		return inThread && (token.Text == "{" || token.Text == "!" || slices.Contains(between(), token.Text))
	}
	if ahead := tokens[i-1].Text; ahead != "(" {
		return ahead != "int" && ahead != "lock"
	}
	word := tokens[i-2].Text
	return word != "lock" && word != "unlock"
}

// laidOut tells tokens in the one form, by what stands ahead of and behind each gap.
func laidOut(tokens []api.Token) string {
	var text strings.Builder
	blocks := 0
	for i, token := range tokens {
		text.WriteString(token.Text)
		switch token.Text {
		case "{":
			blocks++
		case "}":
			blocks--
		}
		if i+1 == len(tokens) {
			text.WriteString("\n")
			break
		}
		text.WriteString(gapBehind(tokens, i, blocks))
	}
	return text.String()
}

func gapBehind(tokens []api.Token, i, blocks int) string {
	here, next := tokens[i], tokens[i+1].Text
	switch {
	case here.Text == "}" && next == "else", next == "{":
		return " "
	case strings.Contains(";{}", here.Text) && next == "}":
		return "\n" + strings.Repeat("\t", blocks-1)
	case strings.Contains(";{}", here.Text):
		return "\n" + strings.Repeat("\t", blocks)
	case slices.Contains([]string{"print", "lock", "unlock", "cas"}, here.Text) && next == "(", here.Text == "fence":
		return ""
	case here.Kind == api.Word, here.Text == ",", here.Text == "=", next == "=", isBetween(tokens, i), isBetween(tokens, i+1):
		return " "
	}
	return ""
}

// dice gives numbers that are the same each time, and look as if they were not.
type dice uint64

func (d *dice) below(n int) int {
	*d = *d*6364136223846793005 + 1442695040888963407
	return int(uint64(*d)>>33) % n
}
