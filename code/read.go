package code

import (
	"iter"
	"math"
	"slices"

	"quern/api"
	"quern/names"
	"quern/r16"
)

// reader takes fields off bytes that may be any.
type reader struct{ fields }

// fault is what is thrown where the bytes are no code: the place.
type fault int

// hold throws the place of what does not hold.
func hold(is bool, at int) {
	if !is {
		panic(fault(at))
	}
}

// field is the next one.
func (r *reader) field(size int) []byte {
	hold(size <= r.left(), len(r.bytes))
	return r.cut(size)
}

// number is that of the next field, which may be from least to most.
func (r *reader) number(size, least, most int) int {
	at := r.next
	n := numberIn(r.field(size))
	hold(least <= n && n <= most, at)
	return n
}

// code reads the instructions twice: what is no code takes no memory for them, however many it says there are, and code takes just theirs.
func (r *reader) code() api.Code {
	var c api.Code
	r.mark()
	count := r.number(middle, 1, math.MaxUint32)
	c.Main = r.number(middle, 0, count-1)
	c.Funcs = r.functions(count, c.Main)
	first := r.next
	total := 0
	for range r.instructions(c.Funcs) {
		total++
	}
	hold(r.left() == 0, r.next)
	r.next = first
	c.Ins = slices.AppendSeq(make([]api.Ins, 0, total), r.instructions(c.Funcs))
	return c
}

// mark reads the first bytes, each of which is a field.
func (r *reader) mark() {
	for i := range len(mark) {
		r.number(small, int(mark[i]), int(mark[i]))
	}
}

func (r *reader) functions(count, main int) []api.RFunc {
	var list []api.RFunc
	met := map[string]int{}
	first := 0
	for i := range count {
		params := api.MaxParams
		if i == main {
			params = 0
		}
		f := r.function(met, params)
		f.First = first
		first += f.Count
		list = append(list, f)
	}
	return list
}

// function reads a function that has none of the names that were met, and at most so many parameters.
func (r *reader) function(met map[string]int, params int) api.RFunc {
	var f api.RFunc
	f.Name = r.name(met)
	f.Frame = r.number(great, 2, api.MaxStack)
	f.Count = r.number(middle, 1, math.MaxUint32)
	f.Params = r.number(small, 0, params)
	return f
}

func (r *reader) name(met map[string]int) string {
	size := r.number(small, 1, api.MaxName)
	at := r.next
	name := string(r.field(size))
	hold(names.Fits(name) && met[name] == 0, at)
	met[name]++
	return name
}

// instructions are those of these functions, in order.
func (r *reader) instructions(functions []api.RFunc) iter.Seq[api.Ins] {
	return func(yield func(api.Ins) bool) {
		for _, f := range functions {
			for i := range f.Count {
				if !yield(r.instruction(f, len(functions), i == f.Count-1)) {
					return
				}
			}
		}
	}
}

// instruction reads one of the function f, which is one of so many.
func (r *reader) instruction(f api.RFunc, functions int, last bool) api.Ins {
	x := api.Ins{Op: r.op(last)}
	registers := [...]*int{&x.A, &x.B, &x.C}
	for _, register := range registers[:r16.RegistersOf(x.Op)] {
		*register = r.number(small, 0, api.Registers-1)
	}
	if r16.HasNumber(x.Op) {
		least, most := r16.NumbersOf(x.Op, f, functions)
		x.N = r.number(great, least, most)
	}
	return x
}

func (r *reader) op(last bool) int {
	at := r.next
	op := numberIn(r.field(small))
	hold(r16.RegistersOf(op) != r16.NoOp && (!last || r16.IsLast(op)), at)
	return op
}
