package sample

import (
	"strconv"
	"strings"

	"quern/api"
)

// SpacedLIR is the program in new memory, with spare room behind each of its lists, in which stand numbers.
func SpacedLIR(l api.LIR) api.LIR {
	l.Funcs = room(l.Funcs, api.LFunc{Name: "spare"})
	for i := range l.Funcs {
		f := &l.Funcs[i]
		f.Params, f.Blocks = room(f.Params, 5), room(f.Blocks, api.LBlock{Term: api.Term{Kind: 3}})
		for b := range f.Blocks {
			x := &f.Blocks[b]
			x.Body, x.Term.To = room(x.Body, api.LIns{Op: 3}), room(x.Term.To, 7)
			for k := range x.Body {
				x.Body[k].Args = room(x.Body[k].Args, 6)
			}
		}
	}
	return l
}

// LIRLists are all lists of numbers that a program has, those in spare room too.
func LIRLists(l api.LIR) (all [][]int) {
	for _, f := range l.Funcs[:cap(l.Funcs)] {
		all = append(all, f.Params)
		for _, b := range f.Blocks[:cap(f.Blocks)] {
			all = append(all, b.Term.To)
			for _, x := range b.Body[:cap(b.Body)] {
				all = append(all, x.Args)
			}
		}
	}
	return all
}

// cover writes over a list, up to the end of its room.
func cover[T any](list []T, with T) {
	list = list[:cap(list)]
	for i := range list {
		list[i] = with
	}
}

// SpoilLIR writes over all that a program has, spare room included.
func SpoilLIR(l api.LIR) {
	for _, list := range LIRLists(l) {
		cover(list, -77)
	}
	for _, f := range l.Funcs[:cap(l.Funcs)] {
		for _, b := range f.Blocks[:cap(f.Blocks)] {
			cover(b.Body, api.LIns{Op: -1})
		}
		cover(f.Blocks, api.LBlock{Term: api.Term{Kind: -1}})
	}
	cover(l.Funcs, api.LFunc{})
}

// ShapeLIR tells all that a program has, spare room included.
func ShapeLIR(l api.LIR) string {
	var b strings.Builder
	put := func(list ...int) { b.WriteString(numbers(" ", list) + ";") }
	put(l.Main, len(l.Funcs))
	for _, list := range LIRLists(l) {
		put(len(list))
		put(list[:cap(list)]...)
	}
	for _, f := range l.Funcs[:cap(l.Funcs)] {
		b.WriteString(strconv.Quote(f.Name))
		put(f.Regs, f.Result, len(f.Blocks))
		for _, x := range f.Blocks[:cap(f.Blocks)] {
			put(x.Term.Kind, x.Term.Value, len(x.Body))
			for _, i := range x.Body[:cap(x.Body)] {
				put(i.Op, i.Dst, i.Imm)
			}
		}
	}
	return b.String()
}
