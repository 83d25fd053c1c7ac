package unssa_test

import (
	"fmt"
	"slices"

	"quern/api"
)

// The oracle asks the chapter's sentences one by one, with no thought of time.

// way is one from a block to another: of a branch the first or the second one.
type way struct{ from, number int }

// ways are those of a function, by rising numbers of the blocks from which they go, of one block the first one first.
func ways(f api.SFunc) (all []way) {
	for b, block := range f.Blocks {
		for n := range block.Term.To {
			all = append(all, way{b, n})
		}
	}
	return all
}

func (w way) to(f api.SFunc) int { return f.Blocks[w.from].Term.To[w.number] }

// isNew tells whether a new block is made for the way.
func (w way) isNew(f api.SFunc) bool {
	return f.Blocks[w.from].Term.Kind == api.TermBranch && len(f.Blocks[w.to(f)].Preds) >= 2
}

// place is where the way stands in the Preds of the block to which it leads: behind the other one of its branch, if it is the second of two to one block.
func (w way) place(f api.SFunc) int {
	at := slices.Index(f.Blocks[w.to(f)].Preds, w.from)
	if w.number == 1 && f.Blocks[w.from].Term.To[0] == f.Blocks[w.from].Term.To[1] {
		at++
	}
	return at
}

// moves are those of the way, by P1302's words.
func (w way) moves(f api.SFunc) (out []api.LIns) {
	var left [][2]int // to, from
	for _, phi := range f.Blocks[w.to(f)].Phis {
		if arg := f.Values[phi].Args[w.place(f)]; arg != phi {
			left = append(left, [2]int{phi, arg})
		}
	}
	put := func(to, from int) {
		out = append(out, api.LIns{Op: api.InsMove, Dst: to, Args: []int{from}})
	}
	for len(left) > 0 {
		free := slices.IndexFunc(left, func(m [2]int) bool {
			return !slices.ContainsFunc(left, func(other [2]int) bool { return other[1] == m[0] })
		})
		if free >= 0 {
			put(left[free][0], left[free][1])
			left = slices.Delete(left, free, free+1)
		} else {
			put(len(f.Values), left[0][1])
			left[0][1] = len(f.Values)
		}
	}
	return out
}

// oracle tells the LIR of SSA.
func oracle(s api.SSA) api.LIR {
	l := api.LIR{Main: s.Main}
	for _, f := range s.Funcs {
		l.Funcs = append(l.Funcs, oracleFunction(f))
	}
	return l
}

func oracleFunction(f api.SFunc) api.LFunc {
	g := api.LFunc{Name: f.Name, Result: f.Result, Params: f.Params, Regs: len(f.Values)}
	for _, b := range f.Blocks {
		x := api.LBlock{Term: api.Term{Kind: b.Term.Kind, Value: b.Term.Value, To: slices.Clone(b.Term.To)}}
		for _, v := range b.Body {
			ins := api.LIns{Op: f.Values[v].Op, Dst: v, Imm: f.Values[v].Imm, Args: f.Values[v].Args}
			if f.Values[v].Type == api.TypeNone {
				ins.Dst = -1
			}
			x.Body = append(x.Body, ins)
		}
		g.Blocks = append(g.Blocks, x)
	}
	for _, w := range ways(f) {
		moves := w.moves(f)
		if w.isNew(f) {
			g.Blocks[w.from].Term.To[w.number] = len(g.Blocks)
			g.Blocks = append(g.Blocks, api.LBlock{Body: moves, Term: jump(w.to(f))})
		} else {
			g.Blocks[w.from].Body = append(g.Blocks[w.from].Body, moves...)
		}
		if slices.ContainsFunc(moves, func(m api.LIns) bool { return m.Dst == len(f.Values) }) {
			g.Regs = len(f.Values) + 1
		}
	}
	return g
}

// all tells all that a program has.
func all(l api.LIR) string { return fmt.Sprintf("%+v", l) }
