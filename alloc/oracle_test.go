package alloc_test

import (
	"fmt"
	"slices"
	"testing"

	"quern/api"
	"quern/live"
	"quern/order"
	"quern/sample"
	"quern/scan"
)

// point is behind so many instructions of a block.
type point struct{ block, at int }

// isLive goes all ways from a point and looks whether the register is read ahead of being set: P1701, word by word.
func isLive(f api.LFunc, register int, from point) bool {
	met := map[point]struct{}{}
	for todo := []point{from}; len(todo) > 0; {
		p := todo[0]
		todo = todo[1:]
		if _, was := met[p]; was {
			continue
		}
		met[p] = struct{}{}
		b := f.Blocks[p.block]
		if p.at == len(b.Body) {
			if b.Term.Value == register {
				return true
			}
			for _, to := range b.Term.To {
				todo = append(todo, point{to, 0})
			}
			continue
		}
		if slices.Contains(b.Body[p.at].Args, register) {
			return true
		}
		if b.Body[p.at].Dst != register {
			todo = append(todo, point{p.block, p.at + 1})
		}
	}
	return false
}

// lineOf is P2002, 1, and placesOf P2002, 2: by what these layers answer.
func lineOf(f api.LFunc) []int {
	var to [][]int
	for _, b := range f.Blocks {
		to = append(to, b.Term.To)
	}
	return order.Line(to)
}

func placesOf(f api.LFunc) ([]api.Loc, int) {
	list, _ := live.Intervals(f, lineOf(f))
	places, slots, _ := scan.Scan(list, api.Allocated)
	return places, slots
}

// oracle is P2002.
func oracle(l api.LIR) api.ALIR {
	a := api.ALIR{Main: l.Main}
	for _, f := range l.Funcs {
		a.Funcs = append(a.Funcs, oracleFunction(f))
	}
	return a
}

func oracleFunction(f api.LFunc) api.AFunc {
	line := lineOf(f)
	places, slots := placesOf(f)
	one := func(r int) api.Loc {
		if r == -1 {
			return api.Loc{}
		}
		return places[r]
	}
	all := func(registers []int) (list []api.Loc) {
		for _, r := range registers {
			list = append(list, one(r))
		}
		return list
	}
	g := api.AFunc{Name: f.Name, Params: all(f.Params), Result: f.Result, Slots: slots}
	for _, b := range line {
		from := f.Blocks[b]
		block := api.ABlock{Term: api.ATerm{Kind: from.Term.Kind, Value: one(from.Term.Value)}}
		for _, to := range from.Term.To {
			block.Term.To = append(block.Term.To, slices.Index(line, to))
		}
		for i, x := range from.Body {
			y := api.AIns{Op: x.Op, Imm: x.Imm, Dst: one(x.Dst), Args: all(x.Args)}
			if x.Op == api.InsCall {
				y.Saves = oracleSaves(f, places, point{b, i})
			}
			block.Body = append(block.Body, y)
		}
		g.Blocks = append(g.Blocks, block)
	}
	return g
}

// oracleSaves is P2002, 6, of the call at a point.
func oracleSaves(f api.LFunc, places []api.Loc, call point) (saves []int) {
	for register := range api.Allocated {
		for r, p := range places {
			if p == (api.Loc{Kind: api.LocReg, N: register}) && r != f.Blocks[call.block].Body[call.at].Dst && isLive(f, r, point{call.block, call.at + 1}) {
				saves = append(saves, register)
				break
			}
		}
	}
	return saves
}

// all tells all that a program has; nil and an empty list are told alike.
func all(a api.ALIR) string { return fmt.Sprintf("%+v", a) }

// hold holds what is answered of a program against the oracle, and P2004.
func hold(t testing.TB, l api.LIR) api.ALIR {
	t.Helper()
	a, want := allocated(t, l), oracle(l)
	if all(a) != all(want) {
		t.Fatalf("P2002: of\n%s\nis made\n%s\nwant\n%s", sample.TellLIR(l), sample.TellALIR(a), sample.TellALIR(want))
	}
	for i, f := range l.Funcs {
		if no := clash(f, a.Funcs[i]); no != "" {
			t.Fatalf("P2004: %s: %s in\n%s\n%s", f.Name, no, sample.TellLIR(l), sample.TellALIR(a))
		}
	}
	return a
}

// given are the places that an answer has for the registers of a function; of what it does not name, none.
func given(f api.LFunc, g api.AFunc) map[int]api.Loc {
	has := map[int]api.Loc{}
	for i, p := range f.Params {
		has[p] = g.Params[i]
	}
	for i, b := range lineOf(f) {
		for k, x := range f.Blocks[b].Body {
			y := g.Blocks[i].Body[k]
			has[x.Dst] = y.Dst
			for n, r := range x.Args {
				has[r] = y.Args[n]
			}
		}
		has[f.Blocks[b].Term.Value] = g.Blocks[i].Term.Value
	}
	delete(has, -1)
	return has
}

// clash tells where a register is set, and another one with its place is live there by what chapter 17 answers; or nothing. And it asks of each call whether what is live behind it is saved, or in a slot.
func clash(f api.LFunc, g api.AFunc) string {
	has := given(f, g)
	_, behind, _ := live.Live(f)
	for i, p := range f.Params {
		for _, q := range f.Params[:i] {
			if has[p] == has[q] {
				return fmt.Sprintf("the Params %d and %d are both at %v", p, q, has[p])
			}
		}
	}
	for i, b := range lineOf(f) {
		block := f.Blocks[b]
		lives := slices.Clone(behind[b])
		if v := block.Term.Value; v != -1 && !slices.Contains(lives, v) {
			lives = append(lives, v)
		}
		for k, x := range slices.Backward(block.Body) {
			saves := g.Blocks[i].Body[k].Saves
			for _, r := range lives {
				if r == x.Dst {
					continue
				}
				if x.Dst != -1 && has[r] == has[x.Dst] {
					return fmt.Sprintf("%d is set in the block %d, where %d is live, at %v", x.Dst, b, r, has[r])
				}
				if x.Op == api.InsCall && has[r].Kind == api.LocReg && !slices.Contains(saves, has[r].N) {
					return fmt.Sprintf("%d, live across a call in the block %d, is not saved", r, b)
				}
			}
			lives = slices.DeleteFunc(lives, func(r int) bool { return r == x.Dst })
			for _, r := range x.Args {
				if !slices.Contains(lives, r) {
					lives = append(lives, r)
				}
			}
		}
	}
	return ""
}
