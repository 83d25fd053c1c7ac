package types_test

import (
	"cmp"
	"slices"

	"quern/api"
)

// fault is one of P504: its place, its error.
type fault struct {
	at  int
	err api.Errno
}

const none = -1

// typeNames are P502's types by the numbers of Decl.
var typeNames = []string{"none", "int", "bool", "[]int"}

// oracle asks chapter 5 word by word: of each node it looks upward, and through all nodes.
type oracle struct {
	api.Tree
	parent []int
	seen   []fault
}

func ask(t api.Tree) *oracle {
	o := &oracle{Tree: t, parent: make([]int, len(t.Nodes))}
	for i := range o.parent {
		o.parent[i] = none
	}
	for i, n := range t.Nodes {
		for _, kid := range n.Kids {
			o.parent[kid] = i
		}
	}
	return o
}

func (o *oracle) kind(i int) int { return o.Nodes[i].Kind }

// ups are the nodes that a node stands in, the nearest first.
func (o *oracle) ups(i int) []int {
	var l []int
	for i = o.parent[i]; i != none; i = o.parent[i] {
		l = append(l, i)
	}
	return l
}

func (o *oracle) funcOf(i int) api.Node {
	l := o.ups(i)
	return o.Nodes[l[len(l)-1]]
}

// scopesOf are the scopes that a node stands in, the innermost first.
func (o *oracle) scopesOf(i int) []int {
	return slices.DeleteFunc(o.ups(i), func(up int) bool {
		own := o.kind(up) == api.NodeBlock && o.kind(o.parent[up]) == api.NodeFunc
		return own || o.kind(up) != api.NodeBlock && o.kind(up) != api.NodeFunc
	})
}

// declared are the Params and Vars of a name in a scope.
func (o *oracle) declared(scope int, name string) []int {
	var l []int
	for i, n := range o.Nodes {
		if (n.Kind == api.NodeParam || n.Kind == api.NodeVar) && n.Name == name && o.scopesOf(i)[0] == scope {
			l = append(l, i)
		}
	}
	return l
}

// means is the Param, Var or Func that the name of a node means.
func (o *oracle) means(use int) int {
	name := o.Nodes[use].Name
	for _, scope := range o.scopesOf(use) {
		if l := o.declared(scope, name); len(l) > 0 && l[0] < use {
			return l[0]
		}
	}
	for _, f := range o.Funcs {
		if o.Nodes[f].Name == name {
			return f
		}
	}
	return none
}

func (o *oracle) meansVariable(use int) (api.Node, bool) {
	m := o.means(use)
	if m == none || o.kind(m) == api.NodeFunc {
		return api.Node{}, false
	}
	return o.Nodes[m], true
}

func (o *oracle) meansFunc(use int) (api.Node, bool) {
	m := o.means(use)
	if m == none || o.kind(m) != api.NodeFunc {
		return api.Node{}, false
	}
	return o.Nodes[m], true
}

// typeOf is P502.
func (o *oracle) typeOf(i int) string {
	switch n := o.Nodes[i]; n.Kind {
	case api.NodeNum, api.NodeInput, api.NodeLen, api.NodeIndex:
		return "int"
	case api.NodeTrue, api.NodeFalse:
		return "bool"
	case api.NodeMake:
		return "[]int"
	case api.NodeNil:
		return "nil"
	case api.NodeUnary:
		return map[int]string{api.OpNeg: "int", api.OpNot: "bool", api.OpInv: "int"}[n.Op]
	case api.NodeBinary:
		if api.OpAdd <= n.Op && n.Op <= api.OpShr {
			return "int"
		}
		return "bool"
	case api.NodeName:
		if v, ok := o.meansVariable(i); ok {
			return typeNames[v.Decl]
		}
	case api.NodeCall:
		if f, ok := o.meansFunc(i); ok && f.Decl != 0 {
			return typeNames[f.Decl]
		}
	}
	return "open"
}

func (o *oracle) tell(err api.Errno, at int) { o.seen = append(o.seen, fault{at, err}) }

// fits tells ErrType of a value whose type is none of these and not open.
func (o *oracle) fits(value int, types ...string) {
	if t := o.typeOf(value); t != "open" && !slices.Contains(types, t) {
		o.tell(api.ErrType, o.Nodes[value].At)
	}
}

func (o *oracle) fitsDecl(value, decl int) {
	if decl == api.TypeInts {
		o.fits(value, "[]int", "nil")
	} else {
		o.fits(value, typeNames[decl])
	}
}

// terminating is the word of P504's last fault.
func (o *oracle) terminating(i int) bool {
	switch n := o.Nodes[i]; n.Kind {
	case api.NodeReturn, api.NodePanic:
		return true
	case api.NodeBlock:
		return len(n.Kids) > 0 && o.terminating(n.Kids[len(n.Kids)-1])
	case api.NodeIf:
		return len(n.Kids) == 3 && o.terminating(n.Kids[1]) && o.terminating(n.Kids[2])
	case api.NodeFor:
		for j := range o.Nodes {
			if o.kind(j) == api.NodeBreak && o.loopOf(j) == i {
				return false
			}
		}
		return len(n.Kids) == 1
	}
	return false
}

// loopOf is the innermost For in whose Block a node stands.
func (o *oracle) loopOf(i int) int {
	for _, up := range o.ups(i) {
		if o.kind(up) == api.NodeFor {
			return up
		}
	}
	return none
}

// faults are all of P504, the one to be told first.
func (o *oracle) faults() []fault {
	o.seen = nil
	o.program()
	for i, n := range o.Nodes {
		switch n.Kind {
		case api.NodeParam, api.NodeVar:
			if o.declared(o.scopesOf(i)[0], n.Name)[0] != i {
				o.tell(api.ErrTwice, n.Where)
			}
		case api.NodeName, api.NodeSet, api.NodeSetAt, api.NodeCall:
			m := o.means(i)
			if m == none {
				o.tell(api.ErrUnknown, n.Where)
			} else if (n.Kind == api.NodeCall) != (o.kind(m) == api.NodeFunc) {
				o.tell(api.ErrKind, n.Where)
			}
		case api.NodeBreak, api.NodeContinue:
			if o.loopOf(i) == none {
				o.tell(api.ErrLoop, n.At)
			}
		case api.NodeFunc:
			if n.Decl != 0 && !o.terminating(n.Kids[len(n.Kids)-1]) {
				o.tell(api.ErrEnds, n.Close)
			}
		}
		o.wants(i, n)
	}
	slices.SortFunc(o.seen, func(a, b fault) int { return cmp.Or(cmp.Compare(a.at, b.at), cmp.Compare(a.err, b.err)) })
	return o.seen
}

func (o *oracle) program() {
	main := false
	for k, f := range o.Funcs {
		n := o.Nodes[f]
		if slices.ContainsFunc(o.Funcs[:k], func(g int) bool { return o.Nodes[g].Name == n.Name }) {
			o.tell(api.ErrTwice, n.Where)
		}
		if n.Name == "main" && !main {
			main = true
			if n.Decl != 0 || len(n.Kids) != 1 {
				o.tell(api.ErrMain, n.Where)
			}
		}
	}
	if !main {
		o.tell(api.ErrMain, 0)
	}
}

// wants is what a node asks of its values.
func (o *oracle) wants(i int, n api.Node) {
	switch n.Kind {
	case api.NodeVar:
		if len(n.Kids) == 1 {
			o.fitsDecl(n.Kids[0], n.Decl)
		}
	case api.NodeSet:
		if v, ok := o.meansVariable(i); ok {
			o.fitsDecl(n.Kids[0], v.Decl)
		}
	case api.NodeSetAt:
		o.fits(n.Kids[0], "int")
		o.fits(n.Kids[1], "int")
		if v, ok := o.meansVariable(i); ok && typeNames[v.Decl] != "[]int" {
			o.tell(api.ErrType, n.At)
		}
	case api.NodePrint:
		o.fits(n.Kids[0], "int", "bool")
	case api.NodePanic, api.NodeMake:
		o.fits(n.Kids[0], "int")
	case api.NodeIf:
		o.fits(n.Kids[0], "bool")
	case api.NodeFor:
		if len(n.Kids) == 2 {
			o.fits(n.Kids[0], "bool")
		}
	case api.NodeReturn:
		result := o.funcOf(i).Decl
		if result != 0 && len(n.Kids) == 1 {
			o.fitsDecl(n.Kids[0], result)
		} else if result != 0 || len(n.Kids) == 1 {
			o.tell(api.ErrReturn, n.At)
		}
	case api.NodeLen:
		o.fits(n.Kids[0], "[]int")
	case api.NodeIndex:
		o.fits(n.Kids[0], "[]int")
		o.fits(n.Kids[1], "int")
	case api.NodeCall:
		o.wantsOfCall(i, n)
	case api.NodeUnary:
		o.fits(n.Kids[0], o.typeOf(i))
	case api.NodeBinary:
		o.wantsOfBinary(n)
	}
}

func (o *oracle) wantsOfCall(i int, n api.Node) {
	f, ok := o.meansFunc(i)
	if !ok {
		return
	}
	var params []api.Node
	for _, k := range f.Kids {
		if o.kind(k) == api.NodeParam {
			params = append(params, o.Nodes[k])
		}
	}
	for k, value := range n.Kids {
		if k < len(params) {
			o.fitsDecl(value, params[k].Decl)
		}
	}
	if len(params) != len(n.Kids) {
		o.tell(api.ErrCount, n.At)
	}
	if f.Decl == 0 && o.kind(o.parent[i]) != api.NodeCallStmt {
		o.tell(api.ErrResult, n.At)
	}
}

func (o *oracle) wantsOfBinary(n api.Node) {
	left, right := n.Kids[0], n.Kids[1]
	switch n.Op {
	case api.OpBoth, api.OpEither:
		o.fits(left, "bool")
		o.fits(right, "bool")
	case api.OpEq, api.OpNe:
		switch o.typeOf(left) + " " + o.typeOf(right) {
		case "int int", "bool bool", "[]int nil", "nil []int":
		case "int bool", "int []int", "int nil", "bool int", "bool []int", "bool nil", "[]int int", "[]int bool", "nil int", "nil bool":
			o.tell(api.ErrType, o.Nodes[right].At)
		case "[]int []int", "nil nil":
			o.tell(api.ErrType, o.Nodes[left].At)
		}
	default:
		o.fits(left, "int")
		o.fits(right, "int")
	}
}
