package build

import "quern/api"

// statements builds the first one of a list, and then the others, as long as a block is open.
func (f *function) statements(list []int) task {
	return func() {
		if len(list) == 0 || f.open == nil {
			return
		}
		f.next(f.statements(list[1:]))
		f.statement(list[0])
	}
}

func (f *function) statement(number int) {
	n := f.node(number)
	switch n.Kind {
	case api.NodeVar:
		f.with(n.Kids, func(v []int) { f.declare(number, v) })
	case api.NodeSet:
		f.with(n.Kids, func(v []int) { f.set(f.Means[number], v[0]) })
	case api.NodeSetAt:
		a := f.ask(f.Means[number])
		f.with(n.Kids, func(v []int) { f.store(a, v[0], v[1]) })
	case api.NodeCallStmt:
		f.with(n.Kids, func([]int) {})
	case api.NodePrint:
		f.with(n.Kids, func(v []int) { f.print(f.node(n.Kids[0]).Type, v[0]) })
	case api.NodePanic:
		f.with(n.Kids, func(v []int) { f.close(api.TermPanic, v[0]) })
	case api.NodeReturn:
		f.with(n.Kids, func(v []int) { f.close(api.TermReturn, oneOf(v)) })
	case api.NodeIf:
		f.with(n.Kids[:1], func(v []int) { f.choose(v[0], n.Kids[1:]) })
	case api.NodeFor:
		f.repeat(n.Kids)
	case api.NodeBreak:
		f.close(api.TermJump, none, f.innermost().behind)
	case api.NodeContinue:
		f.close(api.TermJump, none, f.innermost().head)
	case api.NodeBlock:
		f.next(f.statements(n.Kids))
	}
}

// oneOf tells the one value of a list, or none.
func oneOf(values []int) int {
	if len(values) == 0 {
		return none
	}
	return values[0]
}

func (f *function) declare(variable int, values []int) {
	v := oneOf(values)
	if v == none {
		v = f.put(api.InsConst, f.node(variable).Decl, 0)
	}
	f.set(variable, v)
}

func (f *function) store(a, i, v int) {
	f.bound(a, i)
	f.put(api.InsStore, api.TypeNone, 0, a, i, v)
}

// bound traps an index that a list doesn't have.
func (f *function) bound(a, i int) {
	length := f.put(api.InsLen, api.TypeInt, 0, a)
	f.put(api.InsTrapBound, api.TypeNone, api.PanicIndex, i, length)
}

func (f *function) print(typ, v int) {
	op := api.InsPrintInt
	if typ == api.TypeBool {
		op = api.InsPrintBool
	}
	f.put(op, api.TypeNone, 0, v)
}

// choose builds an If behind its condition: ways are its Block and, if there is one, what stands behind the else.
func (f *function) choose(condition int, ways []int) {
	yes, behind := newBlock(), newBlock()
	tasks := []task{f.enter(yes), f.statements(ways[:1]), f.leave(behind)}
	no := behind
	if len(ways) == 2 {
		no = newBlock()
		tasks = append(tasks, f.enter(no), f.statements(ways[1:]), f.leave(behind))
	}
	f.close(api.TermBranch, condition, yes, no)
	f.next(append(tasks, f.enter(behind))...)
}

// repeat builds a For: its kids are the condition, if there is one, and the Block.
func (f *function) repeat(kids []int) {
	last := len(kids) - 1
	l := loop{head: newBlock(), behind: newBlock()}
	f.close(api.TermJump, none, l.head)
	f.begin(l.head)
	f.unseal(l.head)
	f.loops = append(f.loops, l)
	f.with(kids[:last], func(condition []int) {
		body := newBlock()
		if len(condition) == 0 {
			f.close(api.TermJump, none, body)
		} else {
			f.close(api.TermBranch, condition[0], body, l.behind)
		}
		f.next(f.enter(body), f.statements(kids[last:]), f.leave(l.head), f.endLoop, f.enter(l.behind))
	})
}

func (f *function) innermost() loop { return f.loops[len(f.loops)-1] }

func (f *function) endLoop() {
	f.seal(f.innermost().head)
	f.loops = f.loops[:len(f.loops)-1]
}
