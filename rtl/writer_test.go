package rtl_test

import (
	"slices"
	"strconv"
	"strings"
)

// dice is a row of numbers that look like none, the same each time.
type dice uint64

func (d *dice) below(n int) int {
	*d = *d*6364136223846793005 + 1442695040888963407
	return int(uint64(*d)>>33) % n
}

func (d *dice) of(words ...string) string {
	return words[d.below(len(words))]
}

// writer makes up texts that may be.
type writer struct {
	*dice
	threads, statements int // at most, of each thread
	deep                int // how far expressions go
	globals             []string
	locks               int
	scopes              [][]string // variables that are there, by blocks
	left                int        // statements of the thread that may still come
}

func (w *writer) program() string {
	var text strings.Builder
	w.globals = []string{"x", "y", "z"}[:1+w.below(3)]
	w.locks = w.below(3)
	for _, name := range w.globals {
		text.WriteString("int " + name + w.of("", "=1", "=-2", "=3") + ";")
	}
	for i := range w.locks {
		text.WriteString("lock m" + strconv.Itoa(i) + ";")
	}
	for range 1 + w.below(w.threads) {
		w.left = 1 + w.below(w.statements)
		text.WriteString("thread" + w.block())
	}
	return text.String()
}

func (w *writer) block() string {
	w.scopes = append(w.scopes, nil)
	text := "{"
	for w.left > 0 && w.below(6) > 0 {
		text += w.statement()
	}
	w.scopes = w.scopes[:len(w.scopes)-1]
	return text + "}"
}

func (w *writer) locals() []string {
	return slices.Concat(w.scopes...)
}

// name is one of all that are there.
func (w *writer) name() string {
	return w.of(append(w.locals(), w.globals...)...)
}

func (w *writer) local() string {
	name := w.of("a", "b", "c", "x", "y")
	last := len(w.scopes) - 1
	if slices.Contains(w.scopes[last], name) {
		return name + "=" + w.expression(w.deep) + ";"
	}
	text := "int " + name + "=" + w.expression(w.deep) + ";"
	w.scopes[last] = append(w.scopes[last], name)
	return text
}

// cas asks a global that no variable hides, if there is one.
func (w *writer) cas() string {
	global := w.of(w.globals...)
	if slices.Contains(w.locals(), global) {
		return "fence;"
	}
	return w.name() + "=cas(" + global + "," + w.expression(w.deep-1) + "," + w.expression(w.deep-1) + ");"
}

func (w *writer) lock() string {
	if w.locks == 0 {
		return "fence;"
	}
	return w.of("lock", "lock", "unlock") + "(m" + strconv.Itoa(w.below(w.locks)) + ");"
}

func (w *writer) statement() string {
	w.left--
	switch w.below(13) {
	case 0, 1:
		return w.local()
	case 2, 3:
		return w.name() + "=" + w.expression(w.deep) + ";"
	case 4:
		return w.cas()
	case 5:
		return "if(" + w.expression(w.deep) + ")" + w.block()
	case 6:
		return "if(" + w.expression(w.deep) + ")" + w.block() + "else" + w.block()
	case 7:
		return "while(" + w.expression(w.deep) + ")" + w.block()
	case 8:
		return "print(" + w.expression(w.deep) + ");"
	case 9, 10:
		return w.lock()
	}
	name := w.name()
	return name + "=" + name + w.of("+1;", "-1;", "*2;")
}

func (w *writer) expression(deep int) string {
	if deep <= 0 || w.below(4) == 0 {
		return w.of("0", "1", "2", w.name(), w.name(), w.name())
	}
	switch w.below(6) {
	case 0:
		return w.of("-", "!") + "(" + w.expression(deep-1) + ")"
	case 1:
		return "(" + w.expression(deep-1) + w.of("&&", "||") + w.expression(deep-1) + ")"
	}
	sign := w.of("+", "-", "*", "==", "!=", "<", "<=", ">", ">=")
	return "(" + w.expression(deep-1) + sign + w.expression(deep-1) + ")"
}
