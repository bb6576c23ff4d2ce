package comp_test

import (
	"slices"
	"strconv"
	"strings"
)

// dice is a row of numbers that look like none, the same each time.
type dice uint64

func (d *dice) below(n int) int {
	*d = *d*6364136223846793005 + 1442695040888963407
	return int(uint64(*d)>>33) % n
}

func (d *dice) of(words ...string) string {
	return words[d.below(len(words))]
}

// writer makes up texts that may be.
type writer struct {
	*dice
	threads, statements int  // at most, of each thread
	deep                int  // how far expressions go
	crowd               int  // so many more locals of the first thread are needed all the time
	guarded             bool // globals are read and set just while the lock m is held
	globals             []string
	scopes              [][]string // variables that are there, by blocks
	left                int        // statements of the thread that may still come
}

func (w *writer) program() string {
	var text strings.Builder
	w.globals = []string{"x", "y", "z"}[:1+w.below(3)]
	for _, name := range w.globals {
		text.WriteString("int " + name + w.of("", "=1", "=-2", "=3") + ";")
	}
	text.WriteString("lock m;lock n;")
	many := w.crowd
	for range 1 + w.below(w.threads) {
		w.left = 1 + w.below(w.statements)
		w.scopes = [][]string{nil}
		ahead, behind := w.crowded(many)
		text.WriteString("thread{" + ahead + w.body() + behind + "}")
		many = 0
	}
	return text.String()
}

// crowded makes locals that hang on a global, and prints them all.
func (w *writer) crowded(many int) (ahead, behind string) {
	if many == 0 {
		return "", ""
	}
	last, sum := "v", "v"
	ahead = w.guard("int v=" + w.globals[0] + ";")
	for i := range many {
		next := "v" + strconv.Itoa(i)
		ahead += "int " + next + "=" + last + w.of("+1;", "*2;", "-3;")
		last = next
		sum += w.of("+", "-") + next
		w.scopes[0] = append(w.scopes[0], next)
	}
	return ahead, "print(" + sum + ");"
}

// guard lets a statement be done while the lock is held, if globals are guarded.
func (w *writer) guard(statement string) string {
	if w.guarded {
		return "lock(m);" + statement + "unlock(m);"
	}
	return statement
}

func (w *writer) body() string {
	text := ""
	for w.left > 0 && w.below(6) > 0 {
		text += w.statement()
	}
	return text
}

func (w *writer) block() string {
	w.scopes = append(w.scopes, nil)
	text := "{" + w.body() + "}"
	w.scopes = w.scopes[:len(w.scopes)-1]
	return text
}

func (w *writer) locals() []string {
	return slices.Concat(w.scopes...)
}

// name is one of all that are there.
func (w *writer) name() string {
	return w.of(append(w.locals(), w.globals...)...)
}

func (w *writer) local() string {
	name := w.of("a", "b", "c", "d", "e")
	last := len(w.scopes) - 1
	if slices.Contains(w.scopes[last], name) {
		return name + "=" + w.expression(w.deep) + ";"
	}
	text := "int " + name + "=" + w.expression(w.deep) + ";"
	w.scopes[last] = append(w.scopes[last], name)
	return text
}

func (w *writer) cas() string {
	return w.name() + "=cas(" + w.of(w.globals...) + "," + w.expression(w.deep-1) + "," + w.expression(w.deep-1) + ");"
}

// condition has no global in it, if those are guarded.
func (w *writer) condition() string {
	if !w.guarded {
		return w.expression(w.deep)
	}
	return w.of(append(w.locals(), "0", "1")...) + w.of("<", ">", "==", "!=") + w.of("0", "1", "2")
}

func (w *writer) statement() string {
	w.left--
	switch w.below(13) {
	case 0, 1:
		return w.guard(w.local())
	case 2, 3:
		return w.guard(w.name() + "=" + w.expression(w.deep) + ";")
	case 4:
		return w.guard(w.cas())
	case 5:
		return "if(" + w.condition() + ")" + w.block()
	case 6:
		return "if(" + w.condition() + ")" + w.block() + "else" + w.block()
	case 7:
		return "while(" + w.condition() + ")" + w.block()
	case 8:
		return w.guard("print(" + w.expression(w.deep) + ");")
	case 9:
		return w.of("lock", "lock", "unlock") + "(" + w.of("n", "n", "m") + ");"
	case 10:
		return "fence;"
	}
	name := w.name()
	return w.guard(name + "=" + name + w.of("+1;", "-1;", "*2;"))
}

func (w *writer) expression(deep int) string {
	if deep <= 0 || w.below(4) == 0 {
		return w.of("0", "1", "2", w.name(), w.name(), w.name())
	}
	switch w.below(6) {
	case 0:
		return w.of("-", "!") + "(" + w.expression(deep-1) + ")"
	case 1:
		return "(" + w.expression(deep-1) + w.of("&&", "||") + w.expression(deep-1) + ")"
	}
	sign := w.of("+", "-", "*", "==", "!=", "<", "<=", ">", ">=")
	return "(" + w.expression(deep-1) + sign + w.expression(deep-1) + ")"
}
