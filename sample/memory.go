package sample

import (
	"slices"
	"strconv"
	"strings"

	"quern/api"
)

// Spaced is the program in new memory, with spare room behind each of its lists, in which stand numbers.
func Spaced(s api.SSA) api.SSA {
	s.Funcs = room(s.Funcs, api.SFunc{Name: "spare"})
	for i := range s.Funcs {
		f := &s.Funcs[i]
		f.Params, f.Values, f.Blocks = room(f.Params, 5), room(f.Values, api.Value{Op: 3}), room(f.Blocks, api.Block{Term: api.Term{Kind: 3}})
		for v := range f.Values {
			f.Values[v].Args = room(f.Values[v].Args, 6)
		}
		for b := range f.Blocks {
			x := &f.Blocks[b]
			x.Phis, x.Body, x.Preds, x.Term.To = room(x.Phis, 7), room(x.Body, 7), room(x.Preds, 7), room(x.Term.To, 7)
		}
	}
	return s
}

// room is a copy of a list with something behind its end.
func room[T any](list []T, fill T) []T {
	all := append(slices.Clone(list), fill, fill, fill)
	return all[:len(list)]
}

// Lists are all lists of numbers that a program has.
func Lists(s api.SSA) (all [][]int) {
	for _, f := range s.Funcs {
		all = append(all, f.Params)
		for _, v := range f.Values {
			all = append(all, v.Args)
		}
		for _, b := range f.Blocks {
			all = append(all, b.Phis, b.Body, b.Preds, b.Term.To)
		}
	}
	return all
}

// roomToo is the program with its spare room.
func roomToo(s api.SSA) api.SSA {
	s.Funcs = slices.Clone(s.Funcs[:cap(s.Funcs)])
	for i := range s.Funcs {
		f := &s.Funcs[i]
		f.Values, f.Blocks = f.Values[:cap(f.Values)], f.Blocks[:cap(f.Blocks)]
	}
	return s
}

// Spoil writes over all that a program has, spare room included.
func Spoil(s api.SSA) {
	all := roomToo(s)
	for _, list := range Lists(all) {
		list = list[:cap(list)]
		for i := range list {
			list[i] = -77
		}
	}
	for _, f := range all.Funcs {
		for v := range f.Values {
			f.Values[v] = api.Value{Op: -1}
		}
		for b := range f.Blocks {
			f.Blocks[b] = api.Block{Term: api.Term{Kind: -1}}
		}
	}
	clear(s.Funcs[:cap(s.Funcs)])
}

// Shape tells all that a program has, spare room included.
func Shape(s api.SSA) string {
	var b strings.Builder
	put := func(list ...int) { b.WriteString(numbers(" ", list) + ";") }
	put(s.Main, len(s.Funcs))
	for _, f := range s.Funcs {
		put(len(f.Values), len(f.Blocks))
	}
	all := roomToo(s)
	for _, list := range Lists(all) {
		put(len(list))
		put(list[:cap(list)]...)
	}
	for _, f := range all.Funcs {
		b.WriteString(strconv.Quote(f.Name))
		put(f.Result)
		for _, v := range f.Values {
			put(v.Op, v.Type, v.Imm)
		}
		for _, x := range f.Blocks {
			put(x.Term.Kind, x.Term.Value)
		}
	}
	return b.String()
}
