package dce_test

import (
	"strconv"
	"testing"

	"quern/api"
	"quern/dce"
	"quern/sample"
)

func number(n int) api.Value { return api.Value{Op: api.InsConst, Type: api.TypeInt, Imm: n} }

func whole(op int, args ...int) api.Value {
	return api.Value{Op: op, Type: api.TypeInt, Args: args}
}

func jump(to int) api.Term { return api.Term{Kind: api.TermJump, Value: -1, To: []int{to}} }

func back() api.Term { return api.Term{Kind: api.TermReturn, Value: -1} }

// straight is a main of one block with these values in their order, or in the other one.
func straight(values []api.Value, turned bool) api.SSA {
	f := api.SFunc{Name: "main", Values: values, Blocks: []api.Block{{Term: back()}}}
	last := len(values) - 1
	for v := range values {
		if turned {
			v = last - v
		}
		f.Blocks[0].Body = append(f.Blocks[0].Body, v)
	}
	if turned {
		f.Values = make([]api.Value, len(values))
		for v, x := range values {
			var args []int
			for _, a := range x.Args {
				args = append(args, last-a)
			}
			x.Args = args
			f.Values[last-v] = x
		}
	}
	return api.SSA{Funcs: []api.SFunc{f}}
}

// TestLongChains: as many values as there may be, each of which reads the one ahead of it.
func TestLongChains(t *testing.T) {
	for _, x := range []struct {
		what     string
		at, left int // where the chain is printed; -1: nowhere
	}{
		{"the last one is wanted", api.MaxRegs - 3, api.MaxRegs - 1},
		{"one in the middle is wanted", api.MaxRegs / 2, api.MaxRegs/2 + 2},
		{"nobody wants any", -1, 0},
	} {
		values := []api.Value{number(1)}
		for v := 1; v < api.MaxRegs-2; v++ {
			values = append(values, whole(api.InsAdd, v-1, 0))
		}
		if x.at >= 0 {
			values = append(values, api.Value{Op: api.InsPrintInt, Args: []int{x.at}})
		} else {
			values = append(values, whole(api.InsNeg, len(values)-1))
		}
		var told []string
		for _, turned := range []bool{false, true} {
			c := cleaned(t, straight(values, turned))
			if n := len(c.Funcs[0].Values); n != x.left || len(c.Funcs[0].Blocks[0].Body) != n {
				t.Errorf("%s: %d values left, want %d", x.what, n, x.left)
			}
			told = append(told, sample.Tell(c))
		}
		if told[0] != told[1] {
			t.Errorf("P1202: %s: other numbers lead to other ones", x.what)
		}
	}
	values := make([]api.Value, api.MaxRegs)
	for v := range values {
		values[v] = number(v)
	}
	if c, e := dce.Clean(straight(values, false)); e != api.ErrSSAForm || c.Funcs != nil {
		t.Errorf("MaxRegs values that nobody wants: %v", e)
	}
}

// ladder is a main of a loop with n blocks, in each of which stand a Phi and what reads it; from the last block on to the first one, or out.
func ladder(n int, last api.Term) api.SSA {
	f := api.SFunc{Name: "main", Values: []api.Value{number(0), {Op: api.InsConst, Type: api.TypeBool, Imm: 1}}, Blocks: []api.Block{{Body: []int{0, 1}, Term: jump(1)}}}
	for b := 1; b <= n; b++ {
		phi, preds := whole(api.InsPhi, 2*b-1), []int{b - 1}
		if b == 1 {
			phi, preds = whole(api.InsPhi, 0, 2*n+1), []int{0, n}
		}
		f.Values = append(f.Values, phi, whole(api.InsAdd, 2*b, 0))
		f.Blocks = append(f.Blocks, api.Block{Phis: []int{2 * b}, Body: []int{2*b + 1}, Preds: preds, Term: jump(b + 1)})
	}
	f.Blocks[n].Term = api.Term{Kind: api.TermBranch, Value: 1, To: []int{1, n + 1}}
	f.Blocks = append(f.Blocks, api.Block{Preds: []int{n}, Term: last})
	return api.SSA{Funcs: []api.SFunc{f}}
}

// TestLongCircles: very many blocks, through all of which goes one circle of Phis and values.
func TestLongCircles(t *testing.T) {
	const n = 60000
	c := cleaned(t, ladder(n, back()))
	if f := c.Funcs[0]; len(f.Values) != 1 || len(f.Blocks) != n+2 || f.Blocks[n].Term.Value != 0 {
		t.Errorf("nobody wants the circle: %d values, %d blocks left", len(f.Values), len(f.Blocks))
	}
	c = cleaned(t, ladder(n, api.Term{Kind: api.TermPanic, Value: 2}))
	if f := c.Funcs[0]; len(f.Values) != 2*n+2 || len(f.Blocks) != n+2 || f.Blocks[n+1].Term.Value != 2 || phis(c) != n {
		t.Errorf("the end wants the circle: %d values, %d blocks left", len(f.Values), len(f.Blocks))
	}
}

// TestManyArgs: a block to which very many lead, with Phis that read one each.
func TestManyArgs(t *testing.T) {
	const n = 20000 // blocks with a branch: to the last one, or on
	f := api.SFunc{Name: "main", Values: []api.Value{{Op: api.InsConst, Type: api.TypeBool, Imm: 1}}}
	var wanted, not api.Value
	wanted.Op, wanted.Type = api.InsPhi, api.TypeInt
	not.Op, not.Type = api.InsPhi, api.TypeInt
	last := api.Block{Term: back()}
	for b := range n {
		v := len(f.Values)
		f.Values = append(f.Values, number(b), number(-b))
		block := api.Block{Body: []int{v, v + 1}, Term: api.Term{Kind: api.TermBranch, Value: 0, To: []int{n, b + 1}}}
		if b == 0 {
			block.Body = []int{0, v, v + 1}
		} else {
			block.Preds = []int{b - 1}
		}
		f.Blocks = append(f.Blocks, block)
		wanted.Args, not.Args, last.Preds = append(wanted.Args, v), append(not.Args, v+1), append(last.Preds, b)
	}
	// The last of them leads there by both ways.
	wanted.Args, not.Args, last.Preds = append(wanted.Args, 1), append(not.Args, 2), append(last.Preds, n-1)
	v := len(f.Values)
	f.Values = append(f.Values, not, wanted, api.Value{Op: api.InsPrintInt, Args: []int{v + 1}})
	last.Phis, last.Body = []int{v, v + 1}, []int{v + 2}
	f.Blocks = append(f.Blocks, last)
	c := cleaned(t, api.SSA{Funcs: []api.SFunc{f}}).Funcs[0]
	if len(c.Values) != n+3 || len(c.Values[n+1].Args) != n+1 || c.Values[n+1].Args[5] != 6 || c.Values[c.Values[n+1].Args[5]].Imm != 5 {
		t.Errorf("%d values left, want %d", len(c.Values), n+3)
	}
}

func TestManyFunctions(t *testing.T) {
	const n = 20000
	s := api.SSA{Main: n / 2}
	for i := range n {
		f := api.SFunc{Name: "f" + strconv.Itoa(i), Values: []api.Value{number(i), {Op: api.InsCall, Imm: n - 1 - i}, whole(api.InsNeg, 0)}}
		f.Blocks = []api.Block{{Body: []int{0, 2, 1}, Term: back()}}
		s.Funcs = append(s.Funcs, f)
	}
	c := cleaned(t, s)
	for i, f := range c.Funcs {
		if f.Name != s.Funcs[i].Name || len(f.Values) != 1 || f.Values[0].Imm != n-1-i {
			t.Fatalf("the function %d: %+v", i, f)
		}
	}
	if len(c.Funcs) != n || c.Main != n/2 {
		t.Errorf("%d functions, main %d", len(c.Funcs), c.Main)
	}
}
