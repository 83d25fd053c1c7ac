package unssa_test

import (
	"slices"
	"strconv"
	"testing"

	"quern/api"
	"quern/unssa"
)

func number(n int) api.Value { return api.Value{Op: api.InsConst, Type: api.TypeInt, Imm: n} }

func phi(args ...int) api.Value {
	return api.Value{Op: api.InsPhi, Type: api.TypeInt, Args: args}
}

func truth() api.Value { return api.Value{Op: api.InsConst, Type: api.TypeBool, Imm: 1} }

func show(v int) api.Value { return api.Value{Op: api.InsPrintInt, Args: []int{v}} }

func inMainAlone(f api.SFunc) api.SSA {
	f.Name = "main"
	return api.SSA{Funcs: []api.SFunc{f}}
}

// isMove tells whether an instruction is just that move.
func isMove(x api.LIns, to, from int) bool {
	return x.Op == api.InsMove && x.Dst == to && x.Imm == 0 && slices.Equal(x.Args, []int{from})
}

// TestManyBlocks: a chain of blocks, the last one with a branch to the first ones.
func TestManyBlocks(t *testing.T) {
	const n = 300000
	f := api.SFunc{Values: []api.Value{truth()}}
	for b := range n {
		f.Blocks = append(f.Blocks, api.Block{Preds: []int{b - 1}, Term: jump(b + 1)})
	}
	f.Blocks[0].Body, f.Blocks[0].Preds = []int{0}, nil
	f.Blocks[1].Preds, f.Blocks[2].Preds = []int{0, n - 1}, []int{1, n - 1}
	f.Blocks[n-1].Term = branch(0, 2, 1)
	g := lowered(t, inMainAlone(f)).Funcs[0]
	if len(g.Blocks) != n+2 || g.Regs != 1 {
		t.Fatalf("%d blocks, Regs %d", len(g.Blocks), g.Regs)
	}
	for b := range n - 1 {
		if x := g.Blocks[b]; x.Term.Kind != api.TermJump || x.Term.To[0] != b+1 {
			t.Fatalf("the block %d: %+v", b, x)
		}
	}
	if x, y := g.Blocks[n], g.Blocks[n+1]; !slices.Equal(g.Blocks[n-1].Term.To, []int{n, n + 1}) || x.Term.To[0] != 2 || y.Term.To[0] != 1 {
		t.Errorf("the last ones: %+v", g.Blocks[n-1:])
	}
}

// TestManyNewBlocks: each block leads to the next one by both ways, with a Phi and without.
func TestManyNewBlocks(t *testing.T) {
	const n = 100000
	f := api.SFunc{Values: []api.Value{truth(), number(5)}}
	f.Blocks = []api.Block{{Body: []int{0, 1}, Term: branch(0, 1, 1)}}
	for b := 1; b <= n; b++ {
		block := api.Block{Preds: []int{b - 1, b - 1}, Term: branch(0, b+1, b+1)}
		if b%2 == 0 {
			block.Phis = []int{len(f.Values)}
			f.Values = append(f.Values, phi(len(f.Values)-1, 1))
		}
		f.Blocks = append(f.Blocks, block)
	}
	f.Blocks[n].Term = back(-1)
	g := lowered(t, inMainAlone(f)).Funcs[0]
	if len(g.Blocks) != n+1+2*n || g.Regs != n/2+2 {
		t.Fatalf("%d blocks, Regs %d", len(g.Blocks), g.Regs)
	}
	for b := range n {
		yes := n + 1 + 2*b
		x, y := g.Blocks[yes], g.Blocks[yes+1]
		if !slices.Equal(g.Blocks[b].Term.To, []int{yes, yes + 1}) || x.Term.To[0] != b+1 || y.Term.To[0] != b+1 || len(x.Body) != b%2 || len(y.Body) != b%2 {
			t.Fatalf("the ways from %d: %+v %+v", b, x, y)
		}
		if value := 2 + b/2; b%2 == 1 && (!isMove(x.Body[0], value, value-1) || !isMove(y.Body[0], value, 1)) {
			t.Fatalf("the moves from %d: %+v %+v", b, x, y)
		}
	}
}

// TestManyPhis: as many values as there may be, in one circle by a jump; with temp there are MaxRegs.
func TestManyPhis(t *testing.T) {
	const n = api.MaxRegs - 2 // Phis
	f := api.SFunc{Values: []api.Value{number(5)}, Blocks: []api.Block{
		{Body: []int{0}, Term: jump(1)},
		{Preds: []int{0, 1}, Term: jump(1)},
	}}
	for v := 1; v <= n; v++ {
		f.Values = append(f.Values, phi(0, v%n+1))
		f.Blocks[1].Phis = append(f.Blocks[1].Phis, v)
	}
	g := lowered(t, inMainAlone(f)).Funcs[0]
	temp := n + 1
	body := g.Blocks[1].Body
	if g.Regs != api.MaxRegs || len(g.Blocks[0].Body) != n+1 || len(body) != n+1 || !isMove(body[0], temp, 2) || !isMove(body[n], 1, temp) {
		t.Fatalf("a circle: Regs %d, %d and %d instructions", g.Regs, len(g.Blocks[0].Body), len(body))
	}
	for v := 2; v <= n; v++ {
		if !isMove(body[v-1], v, v%n+1) || !isMove(g.Blocks[0].Body[v], v, 0) {
			t.Fatalf("the Phi %d: %+v", v, body[v-1])
		}
	}
	for v := 2; v <= n; v++ { // a chain that stands the other way round
		f.Values[v].Args[1] = v - 1
	}
	f.Values[1].Args[1] = 0
	g = lowered(t, inMainAlone(f)).Funcs[0]
	if body = g.Blocks[1].Body; g.Regs != api.MaxRegs-1 || len(body) != n || !isMove(body[0], n, n-1) || !isMove(body[n-1], 1, 0) {
		t.Fatalf("a chain: Regs %d, %d instructions", g.Regs, len(body))
	}
	f.Values = append(f.Values, number(5))
	f.Blocks[0].Body = append(f.Blocks[0].Body, n+1)
	if l, e := unssa.Lower(inMainAlone(f)); e != api.ErrSSAForm || l.Funcs != nil {
		t.Errorf("MaxRegs values: %v", e)
	}
}

// TestManyPreds: blocks that lead by a branch to the last one, or on; the last of them by both ways.
func TestManyPreds(t *testing.T) {
	const n = 100000
	f := api.SFunc{Values: []api.Value{truth()}}
	a, last := phi(), api.Block{Term: back(-1)}
	for b := range n {
		f.Values = append(f.Values, number(b))
		f.Blocks = append(f.Blocks, api.Block{Body: []int{b + 1}, Preds: []int{b - 1}, Term: branch(0, n, b+1)})
		a.Args, last.Preds = append(a.Args, b+1), append(last.Preds, b)
	}
	f.Blocks[0].Body, f.Blocks[0].Preds = []int{0, 1}, nil
	a.Args, last.Preds = append(a.Args, 1), append(last.Preds, n-1)
	last.Phis, last.Body = []int{n + 1}, []int{n + 2}
	f.Values = append(f.Values, a, show(n+1))
	f.Blocks = append(f.Blocks, last)
	g := lowered(t, inMainAlone(f)).Funcs[0]
	if len(g.Blocks) != 2*n+2 || g.Regs != n+3 {
		t.Fatalf("%d blocks, Regs %d", len(g.Blocks), g.Regs)
	}
	for b := range n + 1 {
		from := b + 1
		if b == n {
			from = 1
		}
		if x := g.Blocks[n+1+b]; len(x.Body) != 1 || !isMove(x.Body[0], n+1, from) || x.Term.To[0] != n {
			t.Fatalf("the new block %d: %+v", b, x)
		}
	}
}

// TestManyPredsAndPhis: very many moves in all.
func TestManyPredsAndPhis(t *testing.T) {
	const n, phis = 1000, 1000
	f := api.SFunc{Values: []api.Value{truth(), number(1)}}
	last := api.Block{Term: back(-1)}
	for b := range n {
		f.Blocks = append(f.Blocks, api.Block{Preds: []int{b - 1}, Term: branch(0, n, b+1)})
		last.Preds = append(last.Preds, b)
	}
	f.Blocks[0].Body, f.Blocks[0].Preds = []int{0, 1}, nil
	last.Preds = append(last.Preds, n-1)
	for range phis {
		last.Phis = append(last.Phis, len(f.Values))
		f.Values = append(f.Values, phi(slices.Repeat([]int{1}, n+1)...))
	}
	f.Blocks = append(f.Blocks, last)
	g := lowered(t, inMainAlone(f)).Funcs[0]
	for b := range n + 1 {
		if body := g.Blocks[n+1+b].Body; len(body) != phis || !isMove(body[phis-1], phis+1, 1) {
			t.Fatalf("the new block %d has %d moves", b, len(body))
		}
	}
}

func TestManyFunctions(t *testing.T) {
	const n = 50000
	s := api.SSA{Main: n / 2}
	for i := range n {
		f := api.SFunc{Name: "f" + strconv.Itoa(i), Values: []api.Value{truth(), {Op: api.InsCall, Imm: n - 1 - i}}}
		f.Blocks = []api.Block{{Body: []int{0, 1}, Term: branch(0, 1, 1)}, {Preds: []int{0, 0}, Term: back(-1)}}
		s.Funcs = append(s.Funcs, f)
	}
	l := lowered(t, s)
	for i, f := range l.Funcs {
		if f.Name != s.Funcs[i].Name || len(f.Blocks) != 4 || f.Blocks[0].Body[1].Imm != n-1-i || f.Blocks[0].Body[1].Dst != -1 {
			t.Fatalf("the function %d: %+v", i, f)
		}
	}
	if len(l.Funcs) != n || l.Main != n/2 {
		t.Errorf("%d functions, main %d", len(l.Funcs), l.Main)
	}
}
