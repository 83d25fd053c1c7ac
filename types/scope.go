package types

import "quern/api"

// variable is a Param or a Var; of a name that has none, one of the type TypeNone.
type variable struct{ number, decl int }

// scopes tell which variables are known. A name is found at once, however many scopes are open: what it hides stands in the scope that hides it.
type scopes struct {
	known map[string]variable   // of a name its innermost variable
	open  []map[string]variable // of each name of the scope what it was known as outside
	count int                   // of the variables in the open scopes
}

func (s *scopes) begin() { s.open = append(s.open, map[string]variable{}) }

func (s *scopes) end() {
	last := len(s.open) - 1
	for name, outside := range s.open[last] {
		s.known[name] = outside
	}
	s.count -= len(s.open[last])
	s.open = s.open[:last]
}

// declare makes a variable known, if the innermost scope has none of its name as yet.
func (s *scopes) declare(name string, v variable) bool {
	inner := s.open[len(s.open)-1]
	if _, twice := inner[name]; twice {
		return false
	}
	inner[name] = s.known[name]
	s.known[name] = v
	s.count++
	return true
}

// namesOfFuncs comes first, as functions are known everywhere.
func (c *checker) namesOfFuncs() {
	for _, number := range c.left {
		f := c.nodes[number]
		if _, twice := c.funcs[f.Name]; twice {
			c.tell(api.ErrTwice, f.Where)
		} else {
			c.funcs[f.Name] = number
		}
	}
	number, ok := c.funcs["main"]
	if !ok {
		c.tell(api.ErrMain, 0)
	} else if main := c.nodes[number]; len(main.Kids) > 1 || main.Decl != api.TypeNone {
		c.tell(api.ErrMain, main.Where)
	}
}

func (c *checker) declaration(number int) {
	n := c.nodes[number]
	c.slots[number] = c.variables.count
	if !c.variables.declare(n.Name, variable{number, n.Decl}) {
		c.tell(api.ErrTwice, n.Where)
	}
}

// variable tells the type of the variable that the node's name means; TypeNone, if it means none.
func (c *checker) variable(number int) int {
	n := c.nodes[number]
	if v := c.variables.known[n.Name]; v.decl != api.TypeNone {
		c.means[number] = v.number
		return v.decl
	}
	if _, ok := c.funcs[n.Name]; ok {
		c.tell(api.ErrKind, n.Where)
	} else {
		c.tell(api.ErrUnknown, n.Where)
	}
	return api.TypeNone
}

// function tells the function that the node's name means, if it means one.
func (c *checker) function(number int) (api.Node, bool) {
	n := c.nodes[number]
	if c.variables.known[n.Name].decl != api.TypeNone {
		c.tell(api.ErrKind, n.Where)
		return api.Node{}, false
	}
	f, ok := c.funcs[n.Name]
	if !ok {
		c.tell(api.ErrUnknown, n.Where)
		return api.Node{}, false
	}
	c.means[number] = f
	return c.nodes[f], true
}
