package types

import "quern/api"

// checker goes through a tree's nodes in their order, so each behind its kids, and finds all faults, as the first one may have the last place.
type checker struct {
	nodes     []api.Node
	left      []int // functions that are not gone through as yet
	funcs     map[string]int
	variables scopes
	ahead     []beginning
	broken    []bool // of each For that is open: whether a Break belongs to it
	types     []int  // of each node, TypeNone where it has none or it is open
	means     []int  // of each node with a name in use: the Param, Var or Func
	slots     []int  // of each Param and Var: how many variables are known where it begins
	ends      []bool // of each node: whether it is a terminating statement
	faults    []fault
}

// beginning is how many scopes and loops begin ahead of a node: their own nodes stand behind all that is in them.
type beginning struct{ scopes, loops int }

func newChecker(t api.Tree) *checker {
	c := &checker{
		nodes:     t.Nodes,
		left:      t.Funcs,
		funcs:     map[string]int{},
		variables: scopes{known: map[string]variable{}},
		ahead:     make([]beginning, len(t.Nodes)),
		types:     make([]int, len(t.Nodes)),
		means:     make([]int, len(t.Nodes)),
		slots:     make([]int, len(t.Nodes)),
		ends:      make([]bool, len(t.Nodes)),
	}
	c.findBeginnings()
	return c
}

func (c *checker) findBeginnings() {
	first := make([]int, len(c.nodes)) // of each node: the first one of those that are in it
	for number, n := range c.nodes {
		first[number] = number
		if len(n.Kids) > 0 {
			first[number] = first[n.Kids[0]]
		}
		begins := &c.ahead[first[number]]
		if n.Kind == api.NodeFor {
			begins.loops++
		}
		if c.isScope(number) {
			begins.scopes++
		}
	}
}

// isScope knows a function's own Block, which has its scope from the Func, by the node behind it.
func (c *checker) isScope(number int) bool {
	switch c.nodes[number].Kind {
	case api.NodeFunc:
		return true
	case api.NodeBlock:
		return c.nodes[number+1].Kind != api.NodeFunc
	}
	return false
}

func (c *checker) beginAhead(number int) {
	for range c.ahead[number].scopes {
		c.variables.begin()
	}
	for range c.ahead[number].loops {
		c.broken = append(c.broken, false)
	}
}

func (c *checker) tell(why api.Errno, place int) {
	c.faults = append(c.faults, fault{why, place})
}

func (c *checker) node(number int) {
	n := c.nodes[number]
	switch {
	case n.Kind == api.NodeParam:
		c.declaration(number)
	case n.Kind == api.NodeFunc:
		c.endOfFunc(n)
	case n.Kind < api.NodeNum:
		c.statement(number)
		c.ends[number] = c.terminates(n)
	default:
		c.types[number] = c.expression(number)
	}
	if n.Kind == api.NodeFor {
		c.broken = c.broken[:len(c.broken)-1]
	}
	if c.isScope(number) {
		c.variables.end()
	}
}
