package types

import "quern/api"

// scopes tell which variables are known. A name is found at once, however many scopes are open: what it hides stands in the scope that hides it.
type scopes struct {
	known map[string]int   // of a name its innermost variable's type, TypeNone where it has no variable
	open  []map[string]int // of each name of the scope what it was known as outside
}

func (s *scopes) begin() { s.open = append(s.open, map[string]int{}) }

func (s *scopes) end() {
	last := len(s.open) - 1
	for name, outside := range s.open[last] {
		s.known[name] = outside
	}
	s.open = s.open[:last]
}

// declare makes a variable known, if the innermost scope has none of its name as yet.
func (s *scopes) declare(name string, decl int) bool {
	inner := s.open[len(s.open)-1]
	if _, twice := inner[name]; twice {
		return false
	}
	inner[name] = s.known[name]
	s.known[name] = decl
	return true
}

// namesOfFuncs comes first, as functions are known everywhere.
func (c *checker) namesOfFuncs() {
	for _, number := range c.left {
		f := c.nodes[number]
		if _, twice := c.funcs[f.Name]; twice {
			c.tell(api.ErrTwice, f.Where)
		} else {
			c.funcs[f.Name] = number
		}
	}
	number, ok := c.funcs["main"]
	if !ok {
		c.tell(api.ErrMain, 0)
	} else if main := c.nodes[number]; len(main.Kids) > 1 || main.Decl != api.TypeNone {
		c.tell(api.ErrMain, main.Where)
	}
}

func (c *checker) declaration(n api.Node) {
	if !c.variables.declare(n.Name, n.Decl) {
		c.tell(api.ErrTwice, n.Where)
	}
}

// variable tells the type of the variable that the node's name means; TypeNone, if it means none.
func (c *checker) variable(n api.Node) int {
	decl := c.variables.known[n.Name]
	if decl != api.TypeNone {
		return decl
	}
	if _, ok := c.funcs[n.Name]; ok {
		c.tell(api.ErrKind, n.Where)
	} else {
		c.tell(api.ErrUnknown, n.Where)
	}
	return api.TypeNone
}

// function tells the function that the node's name means, if it means one.
func (c *checker) function(n api.Node) (api.Node, bool) {
	if c.variables.known[n.Name] != api.TypeNone {
		c.tell(api.ErrKind, n.Where)
		return api.Node{}, false
	}
	number, ok := c.funcs[n.Name]
	if !ok {
		c.tell(api.ErrUnknown, n.Where)
		return api.Node{}, false
	}
	return c.nodes[number], true
}
