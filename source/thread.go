package source

import (
	"maps"
	"slices"

	"sluice/sc"
)

// mostBegun is how many nodes a thread may begin from one mark to the next one.
const mostBegun = 10000

// thread is where one stands, with what is its own.
type thread struct {
	orders []order
	at     int
	locals map[int]int // those that are there, by their nodes
	stack  []int       // what was evaluated so far
}

func (t *thread) ended() bool {
	return t.at == len(t.orders)
}

func (t *thread) atMark() bool {
	return !t.ended() && t.orders[t.at].isMark()
}

// lost tells whether the thread went on for too long: else it stands at a mark or at its end.
func (t *thread) lost() bool {
	return !t.ended() && !t.atMark()
}

func (t *thread) push(n int) {
	t.stack = append(t.stack, n)
}

func (t *thread) pop() int {
	last := len(t.stack) - 1
	n := t.stack[last]
	t.stack = t.stack[:last]
	return n
}

// goOn does all up to the next mark, or to the end; it stays ahead of a node that would be one too many.
func (t *thread) goOn() {
	for begun := 0; !t.ended() && !t.atMark(); {
		o := t.orders[t.at]
		if o.kind == begin {
			if begun == mostBegun {
				return
			}
			begun++
		}
		t.at++
		t.do(o)
	}
}

// do does an order that is no mark.
func (t *thread) do(o order) {
	switch o.kind {
	case begin:
		// A node's beginning is counted, and changes nothing.
	case number:
		t.push(o.num)
	case local:
		t.push(t.locals[o.num])
	case set:
		t.locals[o.num] = t.pop()
	case leave:
		delete(t.locals, o.num)
	case jump:
		t.at = o.num
	case zero:
		if t.pop() == 0 {
			t.at = o.num
		}
	case negate:
		t.push(-t.pop())
	case not:
		t.push(sc.Truth(t.pop() == 0))
	case truth:
		t.push(sc.Truth(t.pop() != 0))
	default:
		right := t.pop()
		left := t.pop()
		t.push(reckon(o.kind, left, right))
	}
}

// clone is the same thread, which goes on by itself.
func (t *thread) clone() thread {
	return thread{orders: t.orders, at: t.at, locals: maps.Clone(t.locals), stack: slices.Clone(t.stack)}
}

// tell hands on numbers that are all that the thread is. How many there are hangs on where it stands alone.
func (t *thread) tell(tell func(number int)) {
	tell(t.at)
	for _, n := range t.stack {
		tell(n)
	}
	for _, node := range slices.Sorted(maps.Keys(t.locals)) {
		tell(t.locals[node])
	}
}
