package emit_test

import (
	"runtime/debug"
	"slices"
	"strconv"
	"testing"

	"quern/api"
	"quern/sample"
)

// shallow lets no call be deep until what it answers is called.
func shallow() func() {
	was := debug.SetMaxStack(1 << 18)
	return func() { debug.SetMaxStack(was) }
}

func back(value api.Loc) api.ATerm { return api.ATerm{Kind: api.TermReturn, Value: value} }

func jump(to int) api.ATerm { return api.ATerm{Kind: api.TermJump, To: []int{to}} }

func branch(value api.Loc, yes, no int) api.ATerm {
	return api.ATerm{Kind: api.TermBranch, Value: value, To: []int{yes, no}}
}

func show(p api.Loc) api.AIns { return api.AIns{Op: api.InsPrintInt, Args: []api.Loc{p}} }

// inMain is a program of a main alone.
func inMain(slots int, blocks ...api.ABlock) api.ALIR {
	return api.ALIR{Funcs: []api.AFunc{{Name: "main", Slots: slots, Blocks: blocks}}}
}

// TestLongChains: blocks that lead on and on, with no instruction, from the first to the last and back.
func TestLongChains(t *testing.T) {
	defer shallow()()
	const n = 500000
	on, to := make([]api.ABlock, n), make([]api.ABlock, n)
	for i := range n {
		on[i].Term, to[i].Term = jump((i+1)%n), jump((i+n-1)%n)
	}
	if c := emitted(t, inMain(0, on...)); !slices.Equal(c.Ins, []api.Ins{{Op: api.RJmp}}) {
		t.Errorf("P2307: %d instructions, %+v", len(c.Ins), c.Ins[0])
	}
	c := emitted(t, inMain(0, to...))
	for i, x := range c.Ins {
		if x != (api.Ins{Op: api.RJmp, N: (i + n - 1) % n}) {
			t.Fatalf("P2307: at %d %+v", i, x)
		}
	}
}

// TestManyBlocks: with one instruction each, that branch to far ones.
func TestManyBlocks(t *testing.T) {
	const n = 300000
	var blocks []api.ABlock
	for i := range n {
		blocks = append(blocks, api.ABlock{Body: []api.AIns{show(reg(i % 8))}, Term: branch(slot(0), n-1-i, (i*7+5)%n)})
	}
	places := make([]int, n)
	at := 0
	for i, b := range blocks {
		places[i] = at
		at += 4
		if slices.Contains(b.Term.To, i+1) {
			at--
		}
	}
	c := emitted(t, inMain(1, blocks...))
	for i, b := range blocks {
		first := c.Ins[places[i]]
		jumps := c.Ins[places[i]+2]
		want := places[b.Term.To[0]]
		if b.Term.To[0] == i+1 {
			want = places[b.Term.To[1]]
		}
		if first != (api.Ins{Op: api.ROutI, A: i % 8}) || jumps.A != 8 || jumps.N != want {
			t.Fatalf("P2303: the block %d: %+v %+v, want %d", i, first, jumps, want)
		}
	}
}

// TestManySlots: as many as there may be, each one used.
func TestManySlots(t *testing.T) {
	const n = api.MaxRegs
	body := []api.AIns{{Op: api.InsCall, Saves: []int{0, 1, 2, 3, 4, 5, 6, 7}}}
	for i := range n {
		body = append(body, show(slot(i)))
	}
	c := emitted(t, inMain(n, api.ABlock{Body: body, Term: back(api.Loc{})}))
	if c.Funcs[0].Frame != 10+n || len(c.Ins) != 17+2*n+1 {
		t.Fatalf("P2302: %+v, %d instructions", c.Funcs[0], len(c.Ins))
	}
	for i := range n {
		if x := c.Ins[17+2*i]; x != (api.Ins{Op: api.RLds, A: 8, N: 10 + i}) {
			t.Fatalf("P2302: the slot %d: %+v", i, x)
		}
	}
}

// TestManyFunctions: each with a block and slots of its own, that calls the next one.
func TestManyFunctions(t *testing.T) {
	const n = 100000
	var a api.ALIR
	for i := range n {
		f := api.AFunc{Name: "f" + strconv.Itoa(i), Slots: i % 5, Blocks: []api.ABlock{{Term: jump(0)}}}
		f.Blocks[0].Body = []api.AIns{{Op: api.InsCall, Imm: (i + 1) % n, Saves: []int{i % 8}}}
		a.Funcs = append(a.Funcs, f)
	}
	a.Main = n / 2
	c := emitted(t, a)
	for i, f := range c.Funcs {
		want := []api.Ins{{Op: api.RSts, A: i % 8, N: 2}, {Op: api.RCall, N: (i + 1) % n}, {Op: api.RLds, A: i % 8, N: 2}, {Op: api.RJmp, N: 4 * i}}
		if f != (api.RFunc{Name: a.Funcs[i].Name, Frame: 3 + i%5, First: 4 * i, Count: 4}) || !slices.Equal(c.Ins[4*i:4*i+4], want) {
			t.Fatalf("P2301: %+v %+v", f, c.Ins[4*i:4*i+4])
		}
	}
	if c.Main != n/2 {
		t.Errorf("P2301: Main %d", c.Main)
	}
}

// TestGreatAndManySmall: what is made of small functions takes no longer behind a great one.
func TestGreatAndManySmall(t *testing.T) {
	const great, small = 300000, 50000
	blocks := make([]api.ABlock, great)
	for i := range blocks {
		blocks[i].Term = branch(reg(0), (i+2)%great, i)
	}
	a := inMain(0, blocks...)
	for i := range small {
		a.Funcs = append(a.Funcs, api.AFunc{Name: "f" + strconv.Itoa(i), Blocks: []api.ABlock{{Term: jump(0)}}})
	}
	c := emitted(t, a)
	for i, f := range c.Funcs[1:] {
		if x := c.Ins[2*great+i]; f.First != 2*great+i || f.Count != 1 || x != (api.Ins{Op: api.RJmp, N: f.First}) {
			t.Fatalf("P2303: %+v %+v", f, x)
		}
	}
}

// TestManyCalls: with eight Args in circles, each saving all.
func TestManyCalls(t *testing.T) {
	const n = 50000
	var params, args []api.Loc
	for i := range 8 {
		params, args = append(params, reg(i)), append(args, reg((i+3)%8))
	}
	x := api.AIns{Op: api.InsCall, Imm: 1, Args: args, Saves: []int{0, 1, 2, 3, 4, 5, 6, 7}}
	a := inMain(0, api.ABlock{Body: slices.Repeat([]api.AIns{x}, n), Term: back(api.Loc{})})
	a.Funcs = append(a.Funcs, api.AFunc{Name: "f", Params: params, Blocks: []api.ABlock{{Term: back(api.Loc{})}}})
	c := emitted(t, a)
	const each = 8 + 9 + 1 + 8 // moves in one circle take one more
	if c.Funcs[0].Count != n*each+1 {
		t.Fatalf("P2306: %d instructions", c.Funcs[0].Count)
	}
	small := hold(t, api.ALIR{Funcs: []api.AFunc{{Name: "main", Blocks: []api.ABlock{{Body: []api.AIns{x}, Term: back(api.Loc{})}}}, a.Funcs[1]}})
	for i := range n {
		if !slices.Equal(c.Ins[i*each:(i+1)*each], small.Ins[:each]) {
			t.Fatalf("P2306: the call %d: %s", i, sample.TellCode(small))
		}
	}
}

// TestMaxName: a name of as many bytes as there may be.
func TestMaxName(t *testing.T) {
	a := sample.ALIR("main()\n0: return")
	a.Funcs[0].Name = string(slices.Repeat([]byte{'n'}, api.MaxName))
	if c := emitted(t, a); c.Funcs[0].Name != a.Funcs[0].Name {
		t.Errorf("P2301: %s", c.Funcs[0].Name)
	}
	a.Funcs[0].Name += "n"
	refused(t, "one byte more", a)
}
