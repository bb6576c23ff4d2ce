package source_test

import (
	"fmt"
	"slices"
	"strconv"

	"sluice/api"
	"sluice/syntax"
)

// The functions here are a second writing of the chapter, with no orders and no stack: nodes are gone through as they
// stand, and what is still to be done behind a mark is a function. Names are looked for by their texts.

// variable is one that is there; lists of them are never changed, but made anew.
type variable struct {
	name  string
	value int
}

// halt is where a thread stands: at its end, at a mark, or lost in what is too long.
type halt struct {
	ended, lost bool
	mark        int    // what the node does there, by its kind; NName: reads, NAssign: sets
	name        string // the global or the lock
	one, two    int    // what is set, printed; asked for and set
	all         string // all that the thread is, as a text
	then        func(n int) *halt
}

// walker goes through one thread's nodes.
type walker struct {
	nodes []api.Node
	begun int
}

const tooMany = 10001

// begin counts a node, and tells whether it is one too many.
func (w *walker) begin() bool {
	w.begun++
	return w.begun >= tooMany
}

func (w *walker) stop(at int, h halt, vars []variable, held []int, then func(n int) *halt) *halt {
	h.all = fmt.Sprint(at, h.mark, held, vars)
	h.then = func(n int) *halt {
		w.begun = 0
		return then(n)
	}
	return &h
}

// with is a list and one number more, in memory of its own.
func with(list []int, n int) []int {
	return append(slices.Clone(list), n)
}

func place(vars []variable, name string) int {
	for i := len(vars) - 1; i >= 0; i-- {
		if vars[i].name == name {
			return i
		}
	}
	return -1
}

func (w *walker) eval(at int, vars []variable, held []int, then func(n int) *halt) *halt {
	if w.begin() {
		return &halt{lost: true}
	}
	n := w.nodes[at]
	switch n.Kind {
	case api.NNumber:
		return then(n.Num)
	case api.NName:
		if i := place(vars, n.Text); i >= 0 {
			return then(vars[i].value)
		}
		return w.stop(at, halt{mark: api.NName, name: n.Text}, vars, held, then)
	case api.NNeg:
		return w.eval(n.Kids[0], vars, held, func(a int) *halt { return then(0 - a) })
	case api.NNot:
		return w.eval(n.Kids[0], vars, held, func(a int) *halt { return then(yes(a == 0)) })
	}
	return w.eval(n.Kids[0], vars, held, func(a int) *halt {
		switch {
		case n.Text == "&&" && a == 0:
			return then(0)
		case n.Text == "||" && a != 0:
			return then(1)
		case n.Text == "&&" || n.Text == "||":
			return w.eval(n.Kids[1], vars, held, func(b int) *halt { return then(yes(b != 0)) })
		}
		return w.eval(n.Kids[1], vars, with(held, a), func(b int) *halt { return then(both(n.Text, a, b)) })
	})
}

func yes(holds bool) int {
	return map[bool]int{true: 1}[holds]
}

func both(sign string, a, b int) int {
	return map[string]int{
		"+": a + b, "-": a - b, "*": a * b, "==": yes(a == b), "!=": yes(a != b),
		"<": yes(a < b), "<=": yes(a <= b), ">": yes(a > b), ">=": yes(a >= b),
	}[sign]
}

// all does statements one behind the other.
func (w *walker) all(list []int, vars []variable, then func(vars []variable) *halt) *halt {
	if len(list) == 0 {
		return then(vars)
	}
	return w.do(list[0], vars, func(vars []variable) *halt { return w.all(list[1:], vars, then) })
}

func (w *walker) block(at int, vars []variable, then func(vars []variable) *halt) *halt {
	return w.all(w.nodes[at].Kids, vars, func(inner []variable) *halt { return then(inner[:len(vars):len(vars)]) })
}

// assign sets a variable, or is a mark of a global.
func (w *walker) assign(at, n int, vars []variable, then func(vars []variable) *halt) *halt {
	name := w.nodes[at].Text
	if i := place(vars, name); i >= 0 {
		vars = slices.Clone(vars)
		vars[i].value = n
		return then(vars)
	}
	h := halt{mark: api.NAssign, name: name, one: n}
	return w.stop(at, h, vars, []int{n}, func(int) *halt { return then(vars) })
}

func (w *walker) do(at int, vars []variable, then func(vars []variable) *halt) *halt {
	if w.begin() {
		return &halt{lost: true}
	}
	n := w.nodes[at]
	switch n.Kind {
	case api.NLocal:
		return w.eval(n.Kids[0], vars, nil, func(a int) *halt { return then(append(slices.Clone(vars), variable{n.Text, a})) })
	case api.NAssign:
		return w.eval(n.Kids[0], vars, nil, func(a int) *halt { return w.assign(at, a, vars, then) })
	case api.NCas:
		return w.cas(at, vars, then)
	case api.NIf:
		return w.eval(n.Kids[0], vars, nil, func(a int) *halt {
			switch {
			case a != 0:
				return w.block(n.Kids[1], vars, then)
			case len(n.Kids) > 2:
				return w.block(n.Kids[2], vars, then)
			}
			return then(vars)
		})
	case api.NWhile:
		return w.loop(n, vars, then)
	case api.NPrint:
		return w.eval(n.Kids[0], vars, nil, func(a int) *halt {
			return w.stop(at, halt{mark: api.NPrint, one: a}, vars, []int{a}, func(int) *halt { return then(vars) })
		})
	}
	return w.stop(at, halt{mark: n.Kind, name: n.Text}, vars, nil, func(int) *halt { return then(vars) })
}

func (w *walker) loop(n api.Node, vars []variable, then func(vars []variable) *halt) *halt {
	return w.eval(n.Kids[0], vars, nil, func(a int) *halt {
		if a == 0 {
			return then(vars)
		}
		return w.block(n.Kids[1], vars, func(vars []variable) *halt { return w.loop(n, vars, then) })
	})
}

func (w *walker) cas(at int, vars []variable, then func(vars []variable) *halt) *halt {
	n := w.nodes[at]
	return w.eval(n.Kids[1], vars, nil, func(a int) *halt {
		return w.eval(n.Kids[2], vars, []int{a}, func(b int) *halt {
			h := halt{mark: api.NCas, name: w.nodes[n.Kids[0]].Text, one: a, two: b}
			return w.stop(at, h, vars, []int{a, b}, func(c int) *halt { return w.assign(at, c, vars, then) })
		})
	})
}

// world is where a run stands; one is never changed, but made anew.
type world struct {
	globals, takers map[string]int
	halts           []*halt
	prints          []int
}

// begun is the world of a text that may be, ahead of the first mark, with the globals' names in their order.
func begun(text string) (world, []string) {
	nodes, _ := syntax.Parse(text)
	w := world{globals: map[string]int{}, takers: map[string]int{}}
	var names []string
	for _, n := range nodes {
		switch n.Kind {
		case api.NGlobal:
			w.globals[n.Text] = n.Num
			names = append(names, n.Text)
		case api.NThread:
			thread := &walker{nodes: nodes}
			w.halts = append(w.halts, thread.block(n.Kids[0], nil, func([]variable) *halt { return &halt{ended: true} }))
		}
	}
	return w, names
}

func (w world) lost() bool {
	return slices.ContainsFunc(w.halts, func(h *halt) bool { return h.lost })
}

func (w world) able() []int {
	var list []int
	for i, h := range w.halts {
		_, taken := w.takers[h.name]
		if !h.ended && !(h.mark == api.NTake && taken) {
			list = append(list, i)
		}
	}
	return list
}

func changed(m map[string]int, name string, n int) map[string]int {
	next := map[string]int{name: n}
	for key, value := range m {
		if key != name {
			next[key] = value
		}
	}
	return next
}

// after is the world behind a thread's mark, and whether the run goes on.
func (w world) after(who int) (world, bool) {
	h := w.halts[who]
	given := 0
	switch h.mark {
	case api.NName:
		given = w.globals[h.name]
	case api.NAssign:
		w.globals = changed(w.globals, h.name, h.one)
	case api.NCas:
		if w.globals[h.name] == h.one {
			given = 1
			w.globals = changed(w.globals, h.name, h.two)
		}
	case api.NPrint:
		w.prints = with(with(w.prints, who), h.one)
	case api.NTake:
		w.takers = changed(w.takers, h.name, who)
	case api.NGive:
		if taker, taken := w.takers[h.name]; !taken || taker != who {
			return w, false
		}
		w.takers = changed(w.takers, h.name, who)
		delete(w.takers, h.name)
	}
	w.halts = slices.Clone(w.halts)
	w.halts[who] = h.then(given)
	return w, true
}

func (w world) words(names []string) []int {
	var list []int
	for _, name := range names {
		list = append(list, w.globals[name])
	}
	return list
}

func (w world) rest() int {
	switch {
	case w.lost():
		return api.Out
	case slices.ContainsFunc(w.halts, func(h *halt) bool { return !h.ended }):
		return api.Stuck
	}
	return api.Done
}

// ran is what Run is to tell of a text that may be.
func ran(text string, script []int) api.Trace {
	w, names := begun(text)
	steps := 0
	end := func(status int) api.Trace {
		return api.Trace{Prints: w.prints, Status: status, Words: w.words(names), Steps: steps}
	}
	for {
		able := w.able()
		if w.lost() || len(able) == 0 {
			return end(w.rest())
		}
		if steps == 5000 {
			return end(api.Out)
		}
		pick := 0
		if len(able) > 1 && len(script) > 0 {
			many := len(able)
			pick = (script[0]%many + many) % many
			script = script[1:]
		}
		steps++
		next, goes := w.after(able[pick])
		if !goes {
			return end(api.Fell)
		}
		w = next
	}
}

// all is a text of all that a world is.
func (w world) all(names []string) string {
	text := fmt.Sprint(w.words(names), w.takers, w.prints)
	for _, h := range w.halts {
		text += "|" + h.all
	}
	return text
}

// came tells the outcomes of a text that may be, as texts, and whether they are all: not so where there are too many
// states, or some thread is lost.
func came(text string) (map[string]int, bool) {
	first, names := begun(text)
	outcomes := map[string]int{}
	known := map[string]int{}
	open := []world{first}
	for len(open) > 0 {
		w := open[0]
		open = open[1:]
		if w.lost() {
			return nil, false
		}
		key := w.all(names)
		if known[key]++; known[key] > 1 {
			continue
		}
		if len(known) > 4000 {
			return nil, false
		}
		if len(w.able()) == 0 {
			outcomes[outcome(w.rest(), w.words(names), w.prints)]++
		}
		for _, who := range w.able() {
			if next, goes := w.after(who); goes {
				open = append(open, next)
			} else {
				outcomes[outcome(api.Fell, nil, w.prints)]++
			}
		}
	}
	return outcomes, true
}

func outcome(status int, words, prints []int) string {
	return strconv.Itoa(status) + " " + fmt.Sprint(words) + " " + fmt.Sprint(prints)
}
