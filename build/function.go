package build

import (
	"slices"

	"quern/api"
)

// function is one that is built. Its values have numbers as they are made; those of the answer come last.
type function struct {
	program
	root    api.Node // its Func
	todo    []task
	stack   []int    // values of expressions, for those who want them
	blocks  []*block // that were begun
	open    *block   // nil: none is
	loops   []loop   // the For that is built, behind those that it stands in
	values  []api.Value
	unasked []phi // of blocks that are sealed: their Args are still to be asked
	count   int
}

// task is a part of what is still to be done: kept in a list, as a tree may be deeper than calls may go.
type task func()

func newFunction(p program, number int) *function {
	return &function{program: p, root: p.node(number)}
}

// build makes the function's blocks and values, as far as it has no fault.
func (f *function) build() api.Errno {
	last := len(f.root.Kids) - 1
	params, body := f.root.Kids[:last], f.root.Kids[last:]
	if len(params) > api.MaxParams {
		return api.ErrBuildParams
	}
	f.begin(newBlock())
	for i, p := range params {
		f.set(p, f.value(api.Value{Op: api.InsParam, Type: f.node(p).Decl, Imm: i}))
	}
	f.next(f.statements(body), f.end)
	for len(f.todo) > 0 && len(f.blocks) <= api.MaxBlocks {
		do := f.take()
		do()
	}
	switch {
	case len(f.blocks) > api.MaxBlocks:
		return api.ErrBuildBlocks
	case f.full():
		return api.ErrBuildValues
	}
	return api.OK
}

// end ends a function whose statements have not.
func (f *function) end() {
	if f.open != nil {
		f.close(api.TermReturn, none)
	}
}

// next puts tasks, in their order, ahead of all that is still to be done.
func (f *function) next(tasks ...task) {
	slices.Reverse(tasks)
	f.todo = append(f.todo, tasks...)
}

func (f *function) take() task {
	last := len(f.todo) - 1
	t := f.todo[last]
	f.todo = f.todo[:last]
	return t
}

// with makes the values of expressions, and then does something with them.
func (f *function) with(expressions []int, do func(values []int)) {
	tasks := make([]task, 0, len(expressions)+1)
	for _, number := range expressions {
		tasks = append(tasks, func() { f.expression(number) })
	}
	f.next(append(tasks, func() {
		first := len(f.stack) - len(expressions)
		values := slices.Clone(f.stack[first:])
		f.stack = f.stack[:first]
		do(values)
	})...)
}

func (f *function) push(value int) { f.stack = append(f.stack, value) }

// full tells that there are too many values: what is built from then on is built for the number of blocks alone.
func (f *function) full() bool { return f.count > api.MaxValues }

// value makes a value, which stands in no block as yet.
func (f *function) value(v api.Value) int {
	f.count++
	f.values = append(f.values, v)
	return len(f.values) - 1
}

// put makes a value in the open block.
func (f *function) put(op, typ, imm int, args ...int) int {
	v := f.value(api.Value{Op: op, Type: typ, Imm: imm, Args: args})
	f.open.body = append(f.open.body, v)
	return v
}
