package sc

// Script has the numbers that are still to be taken.
type Script []int

// Pick tells which of n things comes next, and takes a number only where there is something to choose.
func (s *Script) Pick(n int) int {
	if n < 2 || len(*s) == 0 {
		return 0
	}
	number := (*s)[0]
	*s = (*s)[1:]
	// % keeps the sign of the number, a place has none.
	place := number % n
	if place < 0 {
		place += n
	}
	return place
}
