package alloc_test

import (
	"runtime"
	"runtime/debug"
	"slices"
	"strconv"
	"testing"

	"quern/alir"
	"quern/alloc"
	"quern/api"
)

// shallow lets no call be deep until what it answers is called.
func shallow() func() {
	was := debug.SetMaxStack(1 << 18)
	return func() { debug.SetMaxStack(was) }
}

func set(r int) api.LIns { return api.LIns{Op: api.InsConst, Dst: r, Imm: r} }

func show(r int) api.LIns { return api.LIns{Op: api.InsPrintInt, Dst: -1, Args: []int{r}} }

func reg(n int) api.Loc { return api.Loc{Kind: api.LocReg, N: n} }

func slot(n int) api.Loc { return api.Loc{Kind: api.LocSlot, N: n} }

// call is one of a function without Params and result, which stands behind main.
func call() api.LIns { return api.LIns{Op: api.InsCall, Dst: -1, Imm: 1} }

// withNone is a program of a main and of a function that does nothing.
func withNone(regs int, blocks []api.LBlock) api.LIR {
	return api.LIR{Funcs: []api.LFunc{{Name: "main", Regs: regs, Blocks: blocks}, {Name: "none", Blocks: []api.LBlock{{Term: back(-1)}}}}}
}

// large is what Allocate answers of a program that is too large to be told where it is refused.
func large(t *testing.T, l api.LIR) []api.AFunc {
	t.Helper()
	a, e := alloc.Allocate(l)
	if e != api.OK || len(a.Funcs) != len(l.Funcs) || a.Main != l.Main {
		t.Fatalf("P2002: %v, %d functions", e, len(a.Funcs))
	}
	if e := alir.Check(a); e != api.OK {
		t.Fatalf("P2003: %v", e)
	}
	return a.Funcs
}

// TestLongChains: blocks that stand in their line, and from the last to the first.
func TestLongChains(t *testing.T) {
	defer shallow()()
	const n = 500000
	for _, turned := range []bool{false, true} {
		at := func(i int) int { // the number of the block at a place of the line
			if turned {
				return (n - i) % n
			}
			return i
		}
		blocks := make([]api.LBlock, n)
		for i := range n {
			blocks[at(i)] = api.LBlock{Body: []api.LIns{call()}, Term: branch(1, at((i+1)%n), at((i+1)%n))}
		}
		blocks[0].Body = []api.LIns{set(0), set(1), set(2)}
		blocks[at(n-1)] = api.LBlock{Body: []api.LIns{show(0)}, Term: back(-1)}
		f := large(t, withNone(3, blocks))[0]
		for i, b := range f.Blocks[1 : n-1] {
			if !slices.Equal(b.Term.To, []int{i + 2, i + 2}) || !slices.Equal(b.Body[0].Saves, []int{0, 1}) || b.Term.Value != reg(1) {
				t.Fatalf("P2002: the block %d: %+v", i+1, b)
			}
		}
		if x := f.Blocks[n-1]; len(f.Blocks) != n || x.Body[0].Args[0] != reg(0) || f.Blocks[0].Body[2].Dst != reg(2) {
			t.Errorf("P2002: %d blocks, the last one %+v", len(f.Blocks), x)
		}
	}
}

// TestManyRegisters: as many as there may be, all live at once.
func TestManyRegisters(t *testing.T) {
	const n = api.MaxRegs
	var body []api.LIns
	for r := range n {
		body = append(body, set(r))
	}
	body = append(body, call())
	for r := range n {
		body = append(body, show(r))
	}
	f := large(t, withNone(n, []api.LBlock{{Body: body, Term: back(-1)}}))[0]
	if f.Slots != n-api.Allocated || !slices.Equal(f.Blocks[0].Body[n].Saves, []int{0, 1, 2, 3, 4, 5, 6, 7}) {
		t.Errorf("P2002: %d slots, Saves %v", f.Slots, f.Blocks[0].Body[n].Saves)
	}
	for r := range n { // each new one ends last of all
		want := slot(r - api.Allocated)
		if r < api.Allocated {
			want = reg(r)
		}
		if x, y := f.Blocks[0].Body[r], f.Blocks[0].Body[n+1+r]; x.Dst != want || y.Args[0] != want {
			t.Fatalf("P2002: the register %d: %v and %v, want %v", r, x.Dst, y.Args[0], want)
		}
	}
}

// TestManyLiveEverywhere: very many registers that are live at very many blocks, each with a call. To tell them all would take more memory than there is.
func TestManyLiveEverywhere(t *testing.T) {
	const n, between = 100000, 100000
	blocks := []api.LBlock{{Term: jump(1)}}
	for range between {
		blocks = append(blocks, api.LBlock{Body: []api.LIns{call()}, Term: branch(0, len(blocks)+1, len(blocks))})
	}
	last := api.LBlock{Term: back(-1)}
	for r := range n {
		blocks[0].Body, last.Body = append(blocks[0].Body, set(r)), append(last.Body, show(r))
	}
	f := large(t, withNone(n, append(blocks, last)))[0]
	if f.Slots != n-api.Allocated || len(f.Blocks) != between+2 {
		t.Fatalf("P2002: %d slots, %d blocks", f.Slots, len(f.Blocks))
	}
	for i, b := range f.Blocks[1 : between+1] {
		if !slices.Equal(b.Body[0].Saves, []int{0, 1, 2, 3, 4, 5, 6, 7}) {
			t.Fatalf("P2002: the block %d: %+v", i+1, b)
		}
	}
}

// TestManyCalls: a block of very many, behind each of which one register is wanted less.
func TestManyCalls(t *testing.T) {
	const n = 200000
	var body []api.LIns
	for i := range n {
		body = append(body, set(i%7), call(), show(i%7))
	}
	f := large(t, withNone(7, []api.LBlock{{Body: body, Term: back(-1)}}))[0]
	for i := range n {
		if x := f.Blocks[0].Body[3*i+1]; !slices.Equal(x.Saves, []int{i % 7}) {
			t.Fatalf("P2002: the call %d: %v", i, x.Saves)
		}
	}
}

// TestManyLoops: loops within loops, each left at its head, which all read a register that the first block sets, with a call in each.
func TestManyLoops(t *testing.T) {
	defer shallow()()
	const n = 100000
	blocks := []api.LBlock{{Body: []api.LIns{set(0), set(1)}, Term: jump(1)}}
	for i := 1; i <= n; i++ {
		blocks = append(blocks, api.LBlock{Body: []api.LIns{show(0), set(1), call(), show(1)}, Term: branch(0, i+1, i-1)})
	}
	f := large(t, withNone(2, append(blocks, api.LBlock{Term: jump(n)})))[0]
	for i, b := range f.Blocks[1 : n+1] {
		if !slices.Equal(b.Body[2].Saves, []int{0, 1}) || len(b.Term.To) != 2 {
			t.Fatalf("P2002: the block %d: %+v", i+1, b)
		}
	}
}

// TestManyFunctions: their order in the answer is that in which they stand, though one of the first ones takes longest.
func TestManyFunctions(t *testing.T) {
	const n = 100000
	var l api.LIR
	for i := range n {
		f := api.LFunc{Name: "f" + strconv.Itoa(i), Params: []int{i % 5}, Regs: 9, Result: api.TypeInt, Blocks: []api.LBlock{{Term: back(i % 5)}}}
		if i+1 < n {
			f.Blocks[0].Body = []api.LIns{{Op: api.InsCall, Dst: 8, Imm: i + 1, Args: []int{i % 5}}}
		}
		if i == 3 {
			for range 10 * n {
				f.Blocks[0].Body = append(f.Blocks[0].Body, set(7))
			}
		}
		l.Funcs = append(l.Funcs, f)
	}
	l.Main = n
	l.Funcs = append(l.Funcs, api.LFunc{Name: "main", Blocks: []api.LBlock{{Term: back(-1)}}})
	for i, f := range large(t, l) {
		if f.Name != l.Funcs[i].Name || f.Result != l.Funcs[i].Result || len(f.Blocks[0].Body) != len(l.Funcs[i].Blocks[0].Body) {
			t.Fatalf("P2002: at %d stands %s", i, f.Name)
		}
		if i+1 < n && (f.Blocks[0].Body[0].Imm != i+1 || !slices.Equal(f.Blocks[0].Body[0].Saves, []int{0}) || f.Blocks[0].Body[0].Dst != reg(1)) {
			t.Fatalf("P2002: %s: %+v", f.Name, f.Blocks[0].Body[0])
		}
	}
}

// TestManyFunctionsOfGreatNumbers: functions that name few registers, but the last one of all that there may be.
func TestManyFunctionsOfGreatNumbers(t *testing.T) {
	const n, last = 50000, api.MaxRegs - 1
	l := withNone(0, []api.LBlock{{Term: back(-1)}})
	for i := range n {
		l.Funcs = append(l.Funcs, api.LFunc{Name: "f" + strconv.Itoa(i), Params: []int{last}, Regs: last + 1, Blocks: []api.LBlock{
			{Body: []api.LIns{set(last - 1), call(), show(last)}, Term: back(-1)}}})
	}
	for _, f := range large(t, l)[2:] {
		if b := f.Blocks[0].Body; f.Params[0] != reg(0) || b[0].Dst != reg(1) || !slices.Equal(b[1].Saves, []int{0}) || b[2].Args[0] != reg(0) || f.Slots != 0 {
			t.Fatalf("P2002: %+v", f)
		}
	}
}

// TestJoined: when a call has answered, nobody works on any more.
func TestJoined(t *testing.T) {
	l := withNone(0, []api.LBlock{{Term: back(-1)}})
	for i := range 100 {
		l.Funcs = append(l.Funcs, api.LFunc{Name: "f" + strconv.Itoa(i), Blocks: []api.LBlock{{Term: back(-1)}}})
	}
	before := runtime.NumGoroutine()
	for range 1000 {
		alloc.Allocate(l)
	}
	for range 1000000 { // one that has told its end may still be counted
		if runtime.NumGoroutine() <= before {
			return
		}
		runtime.Gosched()
	}
	t.Errorf("LANGUAGE.md, 6: %d goroutines more than before", runtime.NumGoroutine()-before)
}
