package check

import (
	"slices"

	"sluice/api"
)

const (
	noOwner    = -1 // of a node without a name, or with one that it makes itself
	maxGlobals = 16
)

// checker goes through nodes in the order of their numbers, and gives up by panic with the first fault.
type checker struct {
	nodes  []api.Node
	owners []int
	scopes []scope     // the innermost one last; the first one has globals and locks
	counts map[int]int // by kinds, of those that may not be too many
}

// scope tells of each name that is there the node that made it.
type scope map[string]int

func newChecker(nodes []api.Node) *checker {
	owners := slices.Repeat([]int{noOwner}, len(nodes))
	return &checker{nodes: nodes, owners: owners, scopes: []scope{{}}, counts: map[int]int{}}
}

// fault is one of a node.
func (c *checker) fault(code api.Errno, at int) api.Fault {
	return api.Fault{Code: code, At: c.nodes[at].At}
}

func (c *checker) program() {
	whole := len(c.nodes) - 1
	c.walk(whole)
	if c.counts[api.NThread] == 0 {
		panic(c.fault(api.ErrSize, whole))
	}
}

// walk looks at all below a node ahead of the node itself, as their numbers are.
func (c *checker) walk(at int) {
	n := c.nodes[at]
	switch n.Kind {
	case api.NBlock:
		c.block(n.Kids)
	case api.NCas:
		// What it asks and sets is shared, so that a variable of one thread will not do.
		c.use(n.Kids[0], api.NGlobal)
		c.walkAll(n.Kids[1:])
	default:
		c.walkAll(n.Kids)
	}
	c.look(at)
}

func (c *checker) walkAll(list []int) {
	for _, at := range list {
		c.walk(at)
	}
}

// block has a scope of its own for what is made in it.
func (c *checker) block(statements []int) {
	c.scopes = append(c.scopes, scope{})
	defer c.leave()
	c.walkAll(statements)
}

func (c *checker) leave() {
	c.scopes = c.scopes[:len(c.scopes)-1]
}

// look asks all that is asked of a node itself.
func (c *checker) look(at int) {
	switch c.nodes[at].Kind {
	case api.NGlobal:
		c.name(at)
		c.count(at, maxGlobals)
	case api.NLock:
		c.name(at)
		c.count(at, api.MaxLocks)
	case api.NThread:
		c.count(at, api.MaxThreads)
	case api.NLocal:
		c.name(at)
	case api.NName, api.NAssign, api.NCas:
		c.use(at, api.NGlobal, api.NLocal)
	case api.NTake, api.NGive:
		c.use(at, api.NLock)
	}
}

// name lets the name that a node makes be there from now on.
func (c *checker) name(at int) {
	here, text := c.scopes[len(c.scopes)-1], c.nodes[at].Text
	if _, twice := here[text]; twice {
		panic(c.fault(api.ErrTwice, at))
	}
	here[text] = at
}

// count asks for at most so many nodes of this one's kind.
func (c *checker) count(at, most int) {
	kind := c.nodes[at].Kind
	if c.counts[kind] == most {
		panic(c.fault(api.ErrSize, at))
	}
	c.counts[kind]++
}

// use asks that the name of a node is one that a node of these kinds made.
func (c *checker) use(at int, kinds ...int) {
	owner := c.find(at)
	if !slices.Contains(kinds, c.nodes[owner].Kind) {
		panic(c.fault(api.ErrType, at))
	}
	c.owners[at] = owner
}

// find tells the nearest node that made the name of this one.
func (c *checker) find(at int) int {
	for _, names := range slices.Backward(c.scopes) {
		if owner, ok := names[c.nodes[at].Text]; ok {
			return owner
		}
	}
	panic(c.fault(api.ErrName, at))
}
