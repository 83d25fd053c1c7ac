package alir_test

import (
	"runtime"
	"strconv"
	"testing"

	"quern/alir"
	"quern/api"
	"quern/sample"
)

// taken is how many bytes are in use.
func taken() int64 {
	runtime.GC()
	var stats runtime.MemStats
	runtime.ReadMemStats(&stats)
	return int64(stats.HeapAlloc)
}

func set(p api.Loc, number int) api.AIns { return api.AIns{Op: api.InsConst, Dst: p, Imm: number} }

func move(to, from api.Loc) api.AIns {
	return api.AIns{Op: api.InsMove, Dst: to, Args: []api.Loc{from}}
}

func add(to, a, b api.Loc) api.AIns {
	return api.AIns{Op: api.InsAdd, Dst: to, Args: []api.Loc{a, b}}
}

func show(p api.Loc) api.AIns { return api.AIns{Op: api.InsPrintInt, Args: []api.Loc{p}} }

// inOne is a program of main alone.
func inOne(slots int, blocks []api.ABlock) api.ALIR {
	return api.ALIR{Funcs: []api.AFunc{{Name: "main", Slots: slots, Blocks: blocks}}}
}

// downBy counts down to 0 by calls, and back up; its last places are in registers, or in slots.
var downBy = []string{`down(r0) int
	0: r1 const 0; r2 eq r0 r1; branch r2 1 2
	1: return r1
	2: r3 const 1; r4 sub r0 r3; r5 call down r4 save 3; r5 add r5 r3; return r5
	main()
	0: r0 input; r0 call down r0; print r0; return`, `down(s0) int
	0: s1 const 0; s2 eq s0 s1; branch s2 1 2
	1: return s1
	2: s3 const 1; s4 sub s0 s3; s5 call down s4; s5 add s5 s3; return s5
	main()
	0: r0 input; r0 call down r0; print r0; return`}

// TestP1904DeepCalls: no step takes longer for being deep.
func TestP1904DeepCalls(t *testing.T) {
	const deep = 1 << 20
	for _, text := range downBy {
		o, _ := start(t, sample.ALIR(text), []int{deep}).Run(api.MaxFuel)
		if want := strconv.Itoa(deep) + " exit " + strconv.Itoa(8*deep+4+4) + " 0 " + strconv.Itoa(deep+2); told(o) != want {
			t.Errorf("%d calls deep: %s, want %s", deep, told(o), want)
		}
	}
}

// TestP1904CallsWithoutAnEnd: a function that does nothing but call itself.
func TestP1904CallsWithoutAnEnd(t *testing.T) {
	m := start(t, sample.ALIR("main() slots 262144\n0: call main save 0 1 2 3 4 5 6 7; return"), nil)
	if o, _ := m.Run(3 << 20); told(o) != "running 3145728 0 3145729" {
		t.Errorf("calls without an end: %s", told(o))
	}
}

// TestDeepCallsOfManySlots: an activation does not take memory for slots that it has not set, wherever they stand.
func TestDeepCallsOfManySlots(t *testing.T) {
	const deep = 1 << 15
	for _, shift := range []int{0, api.MaxRegs - 6} { // the first slots are those of down, or the last ones
		a := sample.ALIR(downBy[1])
		f := &a.Funcs[0]
		f.Slots = api.MaxRegs
		f.Params[0].N += shift
		for b := range f.Blocks {
			block := &f.Blocks[b]
			for i := range block.Body {
				x := &block.Body[i]
				x.Dst.N += shift
				for k := range x.Args {
					x.Args[k].N += shift
				}
			}
			if block.Term.Kind != api.TermJump {
				block.Term.Value.N += shift
			}
		}
		for s := range f.Slots { // in a block that is come to once, and stands ahead of the one that calls
			f.Blocks[1].Body = append(f.Blocks[1].Body, set(slot(s), 0))
		}
		m := start(t, a, []int{deep})
		before := taken()
		m.Run(6 * deep)
		if grown := taken() - before; grown > 1<<26 {
			t.Errorf("%d calls deep: %d bytes", deep, grown)
		}
		o, _ := m.Run(api.MaxFuel)
		if want := strconv.Itoa(deep) + " exit " + strconv.Itoa(8*deep+4+4+api.MaxRegs) + " 0 " + strconv.Itoa(deep+2); told(o) != want {
			t.Errorf("%d calls deep: %s, want %s", deep, told(o), want)
		}
	}
}

// TestManyFunctionsOfManySlots: a function takes memory for the slots that it sets alone.
func TestManyFunctionsOfManySlots(t *testing.T) {
	var a api.ALIR
	for i := range 5000 {
		body := []api.AIns{set(slot(api.MaxRegs-1), i), show(slot(api.MaxRegs - 1)), show(slot(0))}
		if i > 0 {
			body = append(body, api.AIns{Op: api.InsCall, Imm: i - 1})
		}
		a.Funcs = append(a.Funcs, api.AFunc{Name: "f" + strconv.Itoa(i), Slots: api.MaxRegs, Blocks: []api.ABlock{{Body: body, Term: back(api.Loc{})}}})
	}
	a.Main = len(a.Funcs) - 1
	before := taken()
	m := start(t, a, nil)
	o, _ := m.Run(19999)
	if o.End != api.Running || o.Depth != 5000 || len(o.Events) != 10000 || o.Events[9998].Value != 0 || o.Events[9999].Value != -1 {
		t.Errorf("%d functions: End %d, Depth %d, %d events", len(a.Funcs), o.End, o.Depth, len(o.Events))
	}
	if grown := taken() - before; grown > 1<<25 {
		t.Errorf("%d functions: %d bytes", len(a.Funcs), grown)
	}
	runtime.KeepAlive(m)
}

// TestManyCalls: activations that have ended take no memory, one behind the other or one within the other.
func TestManyCalls(t *testing.T) {
	m := start(t, sample.ALIR(`f(r0) int
		0: s1 const 1; s2 add r0 s1; return s2
		main()
		0: r0 const 0; jump 1
		1: r0 call f r0; jump 1`), nil)
	before := taken()
	if o, _ := m.Run(2 + 5<<20); told(o) != "running 5242882 0 2" {
		t.Errorf("many calls: %s", told(o))
	}
	if grown := taken() - before; grown > 1<<20 {
		t.Errorf("many calls, one behind the other: %d bytes", grown)
	}
	runtime.KeepAlive(m)

	const deep = 2000
	a := sample.ALIR("main()\n0: r0 const " + strconv.Itoa(deep) + "; call down r0; jump 1\n1: jump 1\ndown(s0)\n0: r0 const 1; s0 sub s0 r0; branch s0 1 2\n1: call down s0; return\n2: return")
	for s := 1; s <= 500; s++ {
		a.Funcs[1].Blocks[0].Body = append([]api.AIns{set(slot(s), s)}, a.Funcs[1].Blocks[0].Body...)
	}
	a.Funcs[1].Slots = 501
	m = start(t, a, nil)
	before = taken()
	if o, _ := m.Run(2 + 504*deep - 1); o.Depth != deep+1 || o.End != api.Running {
		t.Errorf("calls within calls: %s", told(o))
	}
	if grown := taken() - before; grown < 1<<22 {
		t.Errorf("calls within calls: %d bytes for the slots of %d activations", grown, deep)
	}
	m.Run(2 * deep)
	if grown := taken() - before; grown > 1<<20 {
		t.Errorf("calls within calls that have ended: %d bytes", grown)
	}
	runtime.KeepAlive(m)
}

// TestEndedRunsLetGo: behind the end, and where it rests, a run keeps no more than its outcome.
func TestEndedRunsLetGo(t *testing.T) {
	for _, last := range []string{"return", "panic r0", "r0 div r0 s9; return", "jump 3\n3: print r0; jump 3"} {
		a := sample.ALIR(`main()
		0: r0 const 0; s1 const 1; r2 const 100000; r3 alloc r2; s9 const 0; jump 1
		1: store r3 r0 s1; r0 add r0 s1; r4 lt r0 r2; branch r4 1 2
		2: ` + last)
		var ended []*alir.Machine
		before := taken()
		for range 4 {
			m := start(t, a, make([]int, 100000))
			m.Run(api.MaxFuel)
			ended = append(ended, m)
		}
		kept := int64(0)
		for _, m := range ended {
			kept += int64(16 * 2 * len(m.Outcome().Events)) // which may have room for twice as many
		}
		if grown := taken() - before; grown > 1<<20+kept {
			t.Errorf("%s: runs that have ended keep %d bytes", last, grown)
		}
		runtime.KeepAlive(ended)
	}
}

// TestLongBlock: a block that sets as many slots as there may be, each from the ones ahead.
func TestLongBlock(t *testing.T) {
	body := []api.AIns{set(slot(0), 1)}
	for s := 1; s < api.MaxRegs; s++ {
		body = append(body, add(slot(s), slot(s-1), slot(0)))
	}
	body = append(body, show(slot(api.MaxRegs-1)))
	a := inOne(api.MaxRegs, []api.ABlock{{Body: body, Term: back(api.Loc{})}})
	o, _ := start(t, a, nil).Run(api.MaxFuel)
	if want := strconv.Itoa(api.MaxRegs) + " exit " + strconv.Itoa(api.MaxRegs+2) + " 0 1"; told(o) != want {
		t.Errorf("%s, want %s", told(o), want)
	}
	body[api.MaxRegs-1].Dst = slot(api.MaxRegs)
	if is := alir.Check(a); is != api.ErrALIRForm {
		t.Errorf("the last one sets what is no place: %v", is)
	}
}

// TestLongBlockOfFewPlaces: two million instructions.
func TestLongBlockOfFewPlaces(t *testing.T) {
	const n = 1 << 21
	body := []api.AIns{set(reg(0), 1), set(reg(1), 0)}
	for len(body) < n {
		body = append(body, add(reg(1), reg(1), reg(0)))
	}
	o, _ := start(t, inOne(0, []api.ABlock{{Body: append(body, show(reg(1))), Term: back(api.Loc{})}}), nil).Run(api.MaxFuel)
	if want := strconv.Itoa(n-2) + " exit " + strconv.Itoa(n+2) + " 0 1"; told(o) != want {
		t.Errorf("%s, want %s", told(o), want)
	}
}

// TestManyBlocks: a chain of very many blocks from the last to the first, each of which hands a number on.
func TestManyBlocks(t *testing.T) {
	const n = 500000
	blocks := make([]api.ABlock, n)
	blocks[0] = api.ABlock{Body: []api.AIns{set(slot(0), 7)}, Term: jump(n - 1)}
	for b := n - 1; b > 1; b-- {
		from, to := slot((n-1-b)%1000), slot((n-b)%1000)
		blocks[b] = api.ABlock{Body: []api.AIns{move(to, from)}, Term: jump(b - 1)}
	}
	blocks[1] = api.ABlock{Body: []api.AIns{show(slot((n - 2) % 1000))}, Term: back(api.Loc{})}
	a := inOne(1000, blocks)
	o, _ := start(t, a, nil).Run(api.MaxFuel)
	if want := "7 exit " + strconv.Itoa(2*n) + " 0 1"; told(o) != want {
		t.Errorf("%s, want %s", told(o), want)
	}
	blocks[n/2].Term = jump(n)
	if is := alir.Check(a); is != api.ErrALIRForm {
		t.Errorf("a To that is no block: %v", is)
	}
}

// TestManyFunctions: each calls the next one.
func TestManyFunctions(t *testing.T) {
	const n = 50000
	var a api.ALIR
	for i := range n {
		f := api.AFunc{Name: "f" + strconv.Itoa(i), Params: []api.Loc{reg(0)}, Result: api.TypeInt, Blocks: []api.ABlock{{Term: back(reg(0))}}}
		if i+1 < n {
			f.Blocks[0].Body = []api.AIns{{Op: api.InsCall, Dst: reg(0), Imm: i + 1, Args: []api.Loc{reg(0)}}}
		}
		a.Funcs = append(a.Funcs, f)
	}
	a.Funcs = append(a.Funcs, api.AFunc{Name: "main", Blocks: []api.ABlock{{
		Body: []api.AIns{set(reg(0), 9), {Op: api.InsCall, Dst: reg(0), Args: []api.Loc{reg(0)}}, show(reg(0))}, Term: back(api.Loc{}),
	}}})
	a.Main = n
	o, _ := start(t, a, nil).Run(api.MaxFuel)
	if want := "9 exit " + strconv.Itoa(4+2*n-1) + " 0 " + strconv.Itoa(n+1); told(o) != want {
		t.Errorf("%s, want %s", told(o), want)
	}
}
