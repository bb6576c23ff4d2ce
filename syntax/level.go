package syntax

// How tightly what stands between signs binds: the greater, the tighter.
const (
	anyLevel   = 1 // all signs between
	aheadLevel = 6 // a sign ahead, or what has none
)

// levelOf tells how tightly a sign between binds; 0 of all else.
func levelOf(sign string) int {
	switch sign {
	case "||":
		return anyLevel
	case "&&":
		return 2
	case "==", "!=", "<", "<=", ">", ">=":
		return 3
	case "+", "-":
		return 4
	case "*":
		return 5
	}
	return 0
}
