package rtl_test

import (
	"slices"
	"strconv"
	"strings"

	"sluice/api"
	"sluice/syntax"
)

// The functions here are a second writing of the chapter: its tables stand as texts, whose lines are filled in, with
// names for places that become numbers at last. Names of the text are looked for by themselves.

// row is what a node becomes: lines of kid (its number, where it is evaluated to), block, set, and of orders.
// r0 and r1 are v + d and v + d + 1, w and l the word and the lock of its name; capitals are places.
func row(n api.Node) string {
	const not = ";const r1 0;same r0 r0 r1"
	const both = "kid 0 r0;kid 1 r1;"
	switch n.Kind {
	case api.NNumber:
		return "const r0 " + strconv.Itoa(n.Num)
	case api.NNeg:
		return "kid 0 r0;const r1 0;sub r0 r1 r0"
	case api.NNot:
		return "kid 0 r0" + not
	case api.NBinary:
		return map[string]string{
			"+": both + "add r0 r0 r1", "-": both + "sub r0 r0 r1", "*": both + "mul r0 r0 r1",
			"<": both + "less r0 r0 r1", "==": both + "same r0 r0 r1", ">": both + "less r0 r1 r0",
			"<=": both + "less r0 r1 r0" + not, ">=": both + "less r0 r0 r1" + not, "!=": both + "same r0 r0 r1" + not,
			"&&": "kid 0 r0;zero r0 F;kid 1 r0;zero r0 F;const r0 1;jump E;F:;const r0 0;E:",
			"||": "kid 0 r0;zero r0 R;const r0 1;jump E;R:;kid 1 r0;zero r0 F;const r0 1;jump E;F:;const r0 0;E:",
		}[n.Text]
	case api.NLocal, api.NAssign:
		return "kid 0 r0;set"
	case api.NCas:
		return "kid 1 r0;kid 2 r1;cas w r0 r1;set"
	case api.NIf:
		if len(n.Kids) > 2 {
			return "kid 0 r0;zero r0 F;block 1;jump E;F:;block 2;E:"
		}
		return "kid 0 r0;zero r0 F;block 1;F:"
	case api.NWhile:
		return "C:;kid 0 r0;zero r0 E;block 1;jump C;E:"
	}
	return map[int]string{api.NPrint: "kid 0 r0;print r0", api.NTake: "lock l", api.NGive: "unlock l", api.NFence: "fence"}[n.Kind]
}

// local is a variable that is there, and its register.
type local struct {
	name     string
	register int
}

// filler fills in the lines of one thread.
type filler struct {
	nodes          []api.Node
	globals, locks []string
	there          []local
	met, all       int // locals so far, and of the whole thread
	names          int // of places, so far
	regs           int
	lines          []string
}

// count tells how many locals are at a node and below.
func count(nodes []api.Node, at int) int {
	sum := 0
	if nodes[at].Kind == api.NLocal {
		sum = 1
	}
	for _, kid := range nodes[at].Kids {
		sum += count(nodes, kid)
	}
	return sum
}

func (f *filler) register(n int) string {
	f.regs = max(f.regs, n+1)
	return strconv.Itoa(n)
}

// find tells the register of the nearest variable of a name, or -1.
func (f *filler) find(name string) int {
	for i := len(f.there) - 1; i >= 0; i-- {
		if f.there[i].name == name {
			return f.there[i].register
		}
	}
	return -1
}

func (f *filler) write(words ...string) {
	f.lines = append(f.lines, strings.Join(words, " "))
}

func (f *filler) block(at int) {
	before := len(f.there)
	for _, kid := range f.nodes[at].Kids {
		f.fill(kid, f.all)
	}
	f.there = f.there[:before]
}

// fill writes all that a node becomes, with r0 for this register.
func (f *filler) fill(at, r0 int) {
	n := f.nodes[at]
	if n.Kind == api.NName {
		if r := f.find(n.Text); r >= 0 {
			f.write("move", f.register(r0), f.register(r))
		} else {
			f.write("load", f.register(r0), strconv.Itoa(slices.Index(f.globals, n.Text)))
		}
		return
	}
	f.names++
	own := strconv.Itoa(f.names)
	for _, line := range strings.Split(row(n), ";") {
		f.line(n, strings.Fields(line), r0, own)
	}
}

func (f *filler) line(n api.Node, words []string, r0 int, own string) {
	switch words[0] {
	case "kid":
		kid, _ := strconv.Atoi(words[1])
		f.fill(n.Kids[kid], r0+slices.Index([]string{"r0", "r1"}, words[2]))
		return
	case "block":
		kid, _ := strconv.Atoi(words[1])
		f.block(n.Kids[kid])
		return
	case "set":
		f.set(n, r0)
		return
	}
	for i, word := range words {
		switch word {
		case "r0":
			words[i] = f.register(r0)
		case "r1":
			words[i] = f.register(r0 + 1)
		case "w":
			words[i] = strconv.Itoa(slices.Index(f.globals, f.nodes[n.Kids[0]].Text))
		case "l":
			words[i] = strconv.Itoa(slices.Index(f.locks, n.Text))
		case "C", "E", "F", "R":
			words[i] += own
		case "C:", "E:", "F:", "R:":
			words[i] = word[:1] + own + ":"
		}
	}
	f.write(words...)
}

func (f *filler) set(n api.Node, r0 int) {
	if n.Kind == api.NLocal {
		f.there = append(f.there, local{n.Text, f.met})
		f.met++
	}
	if r := f.find(n.Text); r >= 0 {
		f.write("move", f.register(r), f.register(r0))
	} else {
		f.write("store", strconv.Itoa(slices.Index(f.globals, n.Text)), f.register(r0))
	}
}

// placed are the lines without names of places.
func placed(lines []string) []string {
	places := map[string]string{}
	var orders []string
	for _, line := range lines {
		if name, ok := strings.CutSuffix(line, ":"); ok {
			places[name] = strconv.Itoa(len(orders))
		} else {
			orders = append(orders, line)
		}
	}
	for i, order := range orders {
		words := strings.Fields(order)
		last := len(words) - 1
		if to, ok := places[words[last]]; ok {
			words[last] = to
		}
		orders[i] = strings.Join(words, " ")
	}
	return orders
}

// making is what Make is to tell of a text that may be, as a text of asm; regs and the longest thread beside it.
func making(text string) (lines string, regs, longest int) {
	nodes, _ := syntax.Parse(text)
	var globals, locks []string
	words := "words"
	threads := ""
	regs = 1
	for _, n := range nodes {
		switch n.Kind {
		case api.NGlobal:
			globals = append(globals, n.Text)
			words += " " + strconv.Itoa(n.Num)
		case api.NLock:
			locks = append(locks, n.Text)
		case api.NThread:
			f := filler{nodes: nodes, globals: globals, locks: locks, all: count(nodes, n.Kids[0])}
			f.block(n.Kids[0])
			orders := placed(f.lines)
			threads += strings.Join(append([]string{"thread"}, orders...), "\n") + "\n"
			regs = max(regs, f.regs)
			longest = max(longest, len(orders))
		}
	}
	return words + "\nlocks " + strconv.Itoa(len(locks)) + "\nregs " + strconv.Itoa(regs) + "\n" + threads, regs, longest
}
