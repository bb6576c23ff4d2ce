package opt

// kind tells what is known of a value.
type kind int

const (
	notThere kind = iota // no way that is known so far brings one
	always               // it is the same number, whatever is picked
	anything
)

// value is what a register holds. Its number is 0 but where it is always that one, so that values are the same where they are equal.
type value struct {
	kind   kind
	number int
}

func alwaysThe(number int) value {
	return value{always, number}
}

// joined is what two ways that come together bring.
func (v value) joined(other value) value {
	switch {
	case v == other || other.kind == notThere:
		return v
	case v.kind == notThere:
		return other
	}
	return value{kind: anything}
}
