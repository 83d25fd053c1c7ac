package types

import "quern/api"

// Bound is a tree that has its types, with what its names mean: what the packages that run a tree, or build of one, go by.
type Bound struct {
	Tree  api.Tree
	Means []int // of each Name, Set and SetAt the number of its Param or Var, of each Call that of its Func
	Slots []int // of each Param and Var how many variables are known where it begins: no two that are known at once have one slot
}

// Bind tells what the names of a tree mean; false: Types refuses it, or answers another tree.
func Bind(t api.Tree) (Bound, bool) {
	c, err := checked(t)
	if err != nil {
		return Bound{}, false
	}
	typed := withTypes(t, c.types)
	for i, n := range typed.Nodes {
		if n.Type != t.Nodes[i].Type { // nothing else can have changed
			return Bound{}, false
		}
	}
	return Bound{Tree: typed, Means: c.means, Slots: c.slots}, true
}
