package sample

import (
	"strconv"
	"strings"

	"quern/api"
)

// SpacedALIR is the program in new memory, with spare room behind each of its lists, in which stand numbers.
func SpacedALIR(a api.ALIR) api.ALIR {
	spare := api.Loc{Kind: 5, N: 5}
	a.Funcs = room(a.Funcs, api.AFunc{Name: "spare"})
	for i := range a.Funcs {
		f := &a.Funcs[i]
		f.Params, f.Blocks = room(f.Params, spare), room(f.Blocks, api.ABlock{Term: api.ATerm{Kind: 3}})
		for b := range f.Blocks {
			x := &f.Blocks[b]
			x.Body, x.Term.To = room(x.Body, api.AIns{Op: 3}), room(x.Term.To, 7)
			for k := range x.Body {
				x.Body[k].Args, x.Body[k].Saves = room(x.Body[k].Args, spare), room(x.Body[k].Saves, 6)
			}
		}
	}
	return a
}

// ALIRLists are all lists of numbers, and all of places, that a program has, those in spare room too.
func ALIRLists(a api.ALIR) (numbers [][]int, places [][]api.Loc) {
	for _, f := range a.Funcs[:cap(a.Funcs)] {
		places = append(places, f.Params)
		for _, b := range f.Blocks[:cap(f.Blocks)] {
			numbers = append(numbers, b.Term.To)
			for _, x := range b.Body[:cap(b.Body)] {
				numbers, places = append(numbers, x.Saves), append(places, x.Args)
			}
		}
	}
	return numbers, places
}

// SpoilALIR writes over all that a program has, spare room included.
func SpoilALIR(a api.ALIR) {
	numbers, places := ALIRLists(a)
	for _, list := range numbers {
		cover(list, -77)
	}
	for _, list := range places {
		cover(list, api.Loc{Kind: -77, N: -77})
	}
	for _, f := range a.Funcs[:cap(a.Funcs)] {
		for _, b := range f.Blocks[:cap(f.Blocks)] {
			cover(b.Body, api.AIns{Op: -1})
		}
		cover(f.Blocks, api.ABlock{Term: api.ATerm{Kind: -1}})
	}
	cover(a.Funcs, api.AFunc{})
}

// ShapeALIR tells all that a program has, spare room included.
func ShapeALIR(a api.ALIR) string {
	var b strings.Builder
	put := func(list ...int) { b.WriteString(numbers(" ", list) + ";") }
	put(a.Main, len(a.Funcs))
	lists, places := ALIRLists(a)
	for _, list := range lists {
		put(len(list))
		put(list[:cap(list)]...)
	}
	for _, list := range places {
		put(len(list))
		for _, p := range list[:cap(list)] {
			put(p.Kind, p.N)
		}
	}
	for _, f := range a.Funcs[:cap(a.Funcs)] {
		b.WriteString(strconv.Quote(f.Name))
		put(f.Slots, f.Result, len(f.Blocks))
		for _, x := range f.Blocks[:cap(f.Blocks)] {
			put(x.Term.Kind, x.Term.Value.Kind, x.Term.Value.N, len(x.Body))
			for _, i := range x.Body[:cap(x.Body)] {
				put(i.Op, i.Dst.Kind, i.Dst.N, i.Imm)
			}
		}
	}
	return b.String()
}
