package source

import "sluice/sc"

// kind is what an order does. Numbers that orders take and leave stand on the thread's stack.
type kind int

const (
	begin  kind = iota // a node is begun
	number             // leaves the order's number
	local              // leaves what a variable holds
	set                // takes what a variable holds from now on
	leave              // a variable is there no more
	jump               // goes on elsewhere
	zero               // takes a number, and goes on elsewhere if it is 0
	negate             // these take one number and leave one
	not
	truth
	plus // these take two numbers and leave one
	minus
	times
	same
	unlike
	less
	atMost
	more
	atLeast
	// From here on they are marks.
	read  // leaves what a global holds
	write // takes what a global holds from now on
	swap  // takes what a global is to hold, and what it is to hold then; leaves whether it did
	show  // takes a number that is printed
	take
	give
	fence
)

// order has as its number what the kind asks for: a number, a variable's node, a place among orders, globals or locks.
type order struct {
	kind kind
	num  int
}

// isMark tells whether other threads can see what the order does, or the order what others do.
func (o order) isMark() bool {
	return o.kind >= read
}

// between is the kind of order of a sign that evaluates both of its sides.
func between(sign string) kind {
	switch sign {
	case "+":
		return plus
	case "-":
		return minus
	case "*":
		return times
	case "==":
		return same
	case "!=":
		return unlike
	case "<":
		return less
	case "<=":
		return atMost
	case ">":
		return more
	}
	return atLeast
}

// reckon tells what an order that takes two numbers leaves.
func reckon(k kind, left, right int) int {
	switch k {
	case plus:
		return left + right
	case minus:
		return left - right
	case times:
		return left * right
	case same:
		return sc.Truth(left == right)
	case unlike:
		return sc.Truth(left != right)
	case less:
		return sc.Truth(left < right)
	case atMost:
		return sc.Truth(left <= right)
	case more:
		return sc.Truth(left > right)
	}
	return sc.Truth(left >= right)
}
