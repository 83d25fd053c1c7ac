package lir_test

import (
	"runtime"
	"strconv"
	"testing"

	"quern/api"
	"quern/lir"
	"quern/sample"
)

// taken is how many bytes are in use.
func taken() int64 {
	runtime.GC()
	var stats runtime.MemStats
	runtime.ReadMemStats(&stats)
	return int64(stats.HeapAlloc)
}

func set(r, number int) api.LIns { return api.LIns{Op: api.InsConst, Dst: r, Imm: number} }

func move(to, from int) api.LIns { return api.LIns{Op: api.InsMove, Dst: to, Args: []int{from}} }

func add(to, a, b int) api.LIns { return api.LIns{Op: api.InsAdd, Dst: to, Args: []int{a, b}} }

func show(r int) api.LIns { return api.LIns{Op: api.InsPrintInt, Dst: -1, Args: []int{r}} }

// inOne is a program of main alone.
func inOne(registers int, blocks []api.LBlock) api.LIR {
	return api.LIR{Funcs: []api.LFunc{{Name: "main", Regs: registers, Blocks: blocks}}}
}

const down = `down(r0) int
	0: r1 const 0; r2 eq r0 r1; branch r2 1 2
	1: return r1
	2: r3 const 1; r4 sub r0 r3; r5 call down r4; r5 add r5 r3; return r5
	main()
	0: r0 input; r0 call down r0; print r0; return`

// TestP1405DeepCalls: no step takes longer for being deep.
func TestP1405DeepCalls(t *testing.T) {
	const deep = 1 << 20
	o, _ := start(t, sample.LIR(down), []int{deep}).Run(api.MaxFuel)
	if want := strconv.Itoa(deep) + " exit " + strconv.Itoa(8*deep+4+4) + " 0 " + strconv.Itoa(deep+2); told(o) != want {
		t.Errorf("%d calls deep: %s, want %s", deep, told(o), want)
	}
}

// TestP1405CallsWithoutAnEnd: a function that does nothing but call itself.
func TestP1405CallsWithoutAnEnd(t *testing.T) {
	m := start(t, sample.LIR("main()\n0: call main; return"), nil)
	if o, _ := m.Run(3 << 20); told(o) != "running 3145728 0 3145729" {
		t.Errorf("calls without an end: %s", told(o))
	}
}

// TestDeepCallsOfManyRegisters: an activation does not take memory for registers that it has not set, wherever they stand.
func TestDeepCallsOfManyRegisters(t *testing.T) {
	const deep = 1 << 15
	for _, many := range []int{api.MaxRegs - 9, 0} { // the first ones are those of down, or the last ones
		l := sample.LIR(down)
		f := &l.Funcs[0]
		f.Regs = api.MaxRegs
		var body []api.LIns
		for r := range f.Regs {
			body = append(body, set(r, 0))
		}
		shift := f.Regs - 9 - many
		f.Params[0] += shift
		for b := range f.Blocks {
			block := &f.Blocks[b]
			for i := range block.Body {
				x := &block.Body[i]
				x.Dst += shift
				for k := range x.Args {
					x.Args[k] += shift
				}
			}
			block.Term.Value += shift
		}
		f.Blocks[1].Body = body // a block that is come to once, and stands ahead of the one that calls
		m := start(t, l, []int{deep})
		before := taken()
		m.Run(6 * deep)
		if grown := taken() - before; grown > 1<<26 {
			t.Errorf("%d calls deep: %d bytes", deep, grown)
		}
		o, _ := m.Run(api.MaxFuel)
		if want := strconv.Itoa(deep) + " exit " + strconv.Itoa(8*deep+4+4+api.MaxRegs) + " 0 " + strconv.Itoa(deep+2); told(o) != want {
			t.Errorf("%d calls deep: %s, want %s", deep, told(o), want)
		}
	}
}

// TestManyFunctionsOfManyRegisters: a function takes memory for the registers that it names alone.
func TestManyFunctionsOfManyRegisters(t *testing.T) {
	var l api.LIR
	for i := range 5000 {
		body := []api.LIns{set(api.MaxRegs-1, i), show(api.MaxRegs - 1)}
		if i > 0 {
			body = append(body, api.LIns{Op: api.InsCall, Dst: -1, Imm: i - 1})
		}
		l.Funcs = append(l.Funcs, api.LFunc{Name: "f" + strconv.Itoa(i), Regs: api.MaxRegs, Blocks: []api.LBlock{{Body: body, Term: back(-1)}}})
	}
	l.Main = len(l.Funcs) - 1
	before := taken()
	m := start(t, l, nil)
	o, _ := m.Run(14999)
	if o.End != api.Running || o.Depth != 5000 || len(o.Events) != 5000 || o.Events[4999].Value != 0 {
		t.Errorf("%d functions: End %d, Depth %d, %d events", len(l.Funcs), o.End, o.Depth, len(o.Events))
	}
	if grown := taken() - before; grown > 1<<25 {
		t.Errorf("%d functions: %d bytes", len(l.Funcs), grown)
	}
	runtime.KeepAlive(m)
}

// TestManyCalls: activations that have ended take no memory.
func TestManyCalls(t *testing.T) {
	m := start(t, sample.LIR(`f(r0) int
		0: r1 const 1; r2 add r0 r1; return r2
		main()
		0: r0 const 0; jump 1
		1: r0 call f r0; jump 1`), nil)
	before := taken()
	if o, _ := m.Run(2 + 5<<20); told(o) != "running 5242882 0 2" {
		t.Errorf("many calls: %s", told(o))
	}
	if grown := taken() - before; grown > 1<<20 {
		t.Errorf("many calls, one behind the other: %d bytes", grown)
	}
	runtime.KeepAlive(m)
}

// TestEndedRunsLetGo: behind the end, and where it rests, a run keeps no more than its outcome.
func TestEndedRunsLetGo(t *testing.T) {
	l := sample.LIR(`main()
		0: r0 const 0; r1 const 1; r2 const 100000; r3 alloc r2; jump 1
		1: store r3 r0 r1; r0 add r0 r1; r4 lt r0 r2; branch r4 1 2
		2: return`)
	var ended []*lir.Machine
	before := taken()
	for range 10 {
		m := start(t, l, make([]int, 100000))
		m.Run(api.MaxFuel)
		ended = append(ended, m)
	}
	if grown := taken() - before; grown > 1<<20 {
		t.Errorf("ten runs that have ended keep %d bytes", grown)
	}
	runtime.KeepAlive(ended)
}

// TestLongBlock: a block that sets as many registers as there may be, each from the ones ahead.
func TestLongBlock(t *testing.T) {
	body := []api.LIns{set(0, 1)}
	for r := 1; r < api.MaxRegs; r++ {
		body = append(body, add(r, r-1, 0))
	}
	last := api.MaxRegs - 1
	body = append(body, show(last))
	l := inOne(api.MaxRegs, []api.LBlock{{Body: body, Term: back(-1)}})
	o, _ := start(t, l, nil).Run(api.MaxFuel)
	if want := strconv.Itoa(api.MaxRegs) + " exit " + strconv.Itoa(api.MaxRegs+2) + " 0 1"; told(o) != want {
		t.Errorf("%s, want %s", told(o), want)
	}
	body[last] = add(last, last-1, last)
	if is := lir.Check(l); is != api.ErrLIRUnset {
		t.Errorf("the last one reads itself: %v", is)
	}
}

// TestLongBlockOfFewRegisters: two million instructions.
func TestLongBlockOfFewRegisters(t *testing.T) {
	const n = 1 << 21
	body := []api.LIns{set(0, 1), set(1, 0)}
	for len(body) < n {
		body = append(body, add(1, 1, 0))
	}
	o, _ := start(t, inOne(2, []api.LBlock{{Body: append(body, show(1)), Term: back(-1)}}), nil).Run(api.MaxFuel)
	if want := strconv.Itoa(n-2) + " exit " + strconv.Itoa(n+2) + " 0 1"; told(o) != want {
		t.Errorf("%s, want %s", told(o), want)
	}
}

// TestManyBlocks: a chain of very many blocks, each of which reads what the one ahead has set, in as many registers as there may be.
func TestManyBlocks(t *testing.T) {
	const n = 500000
	blocks := []api.LBlock{{Body: []api.LIns{set(0, 7), set(1, 1)}, Term: jump(1)}}
	for b := 1; b < n; b++ {
		from, to := 1+b%(api.MaxRegs-1), 1+(b+1)%(api.MaxRegs-1)
		if b == 1 {
			from = 0
		}
		blocks = append(blocks, api.LBlock{Body: []api.LIns{move(to, from)}, Term: jump(b + 1)})
	}
	blocks = append(blocks, api.LBlock{Body: []api.LIns{show(1 + n%(api.MaxRegs-1))}, Term: back(-1)})
	o, _ := start(t, inOne(api.MaxRegs, blocks), nil).Run(api.MaxFuel)
	if want := "7 exit " + strconv.Itoa(3+2*(n-1)+2) + " 0 1"; told(o) != want {
		t.Errorf("%s, want %s", told(o), want)
	}
}

// TestManyBlocksInOtherOrders: the blocks of a chain stand from the last to the first, or in two rows that cross; one register comes from the beginning.
func TestManyBlocksInOtherOrders(t *testing.T) {
	const n = 300000
	for _, order := range []func(i int) int{
		func(i int) int { return n - i },
		func(i int) int { return 1 + (i-1)/2 + (i-1)%2*(n/2) },
	} {
		blocks := make([]api.LBlock, n)
		blocks[0] = api.LBlock{Body: []api.LIns{set(0, 5)}, Term: jump(order(1))}
		for i := 1; i < n-1; i++ {
			blocks[order(i)] = api.LBlock{Body: []api.LIns{move(1, 0)}, Term: branch(1, order(i+1), 0)}
		}
		blocks[order(n-1)] = api.LBlock{Body: []api.LIns{show(0)}, Term: back(-1)}
		l := inOne(2, blocks)
		o, _ := start(t, l, nil).Run(api.MaxFuel)
		if want := "5 exit " + strconv.Itoa(2*n) + " 0 1"; told(o) != want {
			t.Errorf("%s, want %s", told(o), want)
		}
		blocks[0].Body = nil
		if is := lir.Check(l); is != api.ErrLIRUnset {
			t.Errorf("not set at the beginning: %v", is)
		}
		blocks[order(n-1)].Term = jump(0)
		blocks[order(n-2)].Term = branch(1, 0, 0)
		if is := lir.Check(l); is != api.ErrLIRReach {
			t.Errorf("the last one is not reached: %v", is)
		}
	}
}

// TestManyLoops: loops within loops, each left at its head, which all read a register that the first block sets, and each its own, set ahead of it.
func TestManyLoops(t *testing.T) {
	const n = 100000
	blocks := []api.LBlock{{Body: []api.LIns{set(0, 0)}, Term: jump(1)}}
	for i := 1; i <= n; i++ { // the head of the loop i leads into the next one, or back to the head around it
		blocks = append(blocks, api.LBlock{Body: []api.LIns{show(0), show(i - 1), set(i, i)}, Term: branch(0, i+1, i-1)})
	}
	blocks = append(blocks, api.LBlock{Term: jump(n)})
	l := inOne(n+1, blocks)
	if is := lir.Check(l); is != api.OK {
		t.Errorf("%d loops: %v", n, is)
	}
	l.Funcs[0].Blocks[n].Body[1] = show(n)
	if is := lir.Check(l); is != api.ErrLIRUnset {
		t.Errorf("the innermost reads what it sets: %v", is)
	}
}

// TestManyRegistersAcrossManyBlocks: registers that are set on both ways at the beginning, and read far behind it.
func TestManyRegistersAcrossManyBlocks(t *testing.T) {
	const n, between = 1 << 14, 20000
	blocks := []api.LBlock{{Body: []api.LIns{{Op: api.InsInput, Dst: n}}, Term: branch(n, 1, 2)}, {Term: jump(3)}, {Term: jump(3)}}
	var last api.LBlock
	for r := range n {
		blocks[1].Body = append(blocks[1].Body, set(r, 1))
		blocks[2].Body = append(blocks[2].Body, set(r, 2))
		last.Body = append(last.Body, show(r))
	}
	for range between {
		blocks = append(blocks, api.LBlock{Term: jump(len(blocks) + 1)})
	}
	last.Term = back(-1)
	blocks = append(blocks, last)
	l := inOne(n+1, blocks)
	if is := lir.Check(l); is != api.OK {
		t.Errorf("set on both ways: %v", is)
	}
	blocks[2].Body = blocks[2].Body[1:]
	if is := lir.Check(l); is != api.ErrLIRUnset {
		t.Errorf("one is not set on the second way: %v", is)
	}
}

// TestManyFunctions: each calls the next one.
func TestManyFunctions(t *testing.T) {
	const n = 50000
	var l api.LIR
	for i := range n {
		f := api.LFunc{Name: "f" + strconv.Itoa(i), Params: []int{0}, Regs: 1, Result: api.TypeInt, Blocks: []api.LBlock{{Term: back(0)}}}
		if i+1 < n {
			f.Blocks[0].Body = []api.LIns{{Op: api.InsCall, Dst: 0, Imm: i + 1, Args: []int{0}}}
		}
		l.Funcs = append(l.Funcs, f)
	}
	l.Funcs = append(l.Funcs, api.LFunc{Name: "main", Regs: 1, Blocks: []api.LBlock{{
		Body: []api.LIns{set(0, 9), {Op: api.InsCall, Dst: 0, Args: []int{0}}, show(0)}, Term: back(-1),
	}}})
	l.Main = n
	o, _ := start(t, l, nil).Run(api.MaxFuel)
	if want := "9 exit " + strconv.Itoa(4+2*n-1) + " 0 " + strconv.Itoa(n+1); told(o) != want {
		t.Errorf("%s, want %s", told(o), want)
	}
}
