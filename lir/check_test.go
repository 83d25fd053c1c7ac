package lir_test

import (
	"testing"

	"quern/api"
	"quern/lir"
	"quern/sample"
)

// checked is a program, and what Check says of it.
type checked struct {
	what, text string
	want       api.Errno
}

func holdChecked(t *testing.T, rows []checked) {
	t.Helper()
	for _, r := range rows {
		if is := lir.Check(sample.LIR(r.text)); is != r.want {
			t.Errorf("%s: %v, want %v of\n%s", r.what, is, r.want, r.text)
		}
	}
}

// mainOf are rows whose texts are main's blocks.
func mainOf(rows []checked) []checked {
	for i := range rows {
		rows[i].text = "main()\n" + rows[i].text
	}
	return rows
}

// TestP1403Order puts each error into each of three functions, and each other one into each other place: an error that is named first is told, wherever it stands.
func TestP1403Order(t *testing.T) {
	turns := []struct {
		turn func(f *api.LFunc)
		why  api.Errno
	}{
		{func(f *api.LFunc) { f.Result = 9 }, api.ErrLIRForm},
		{func(f *api.LFunc) { f.Regs = 0 }, api.ErrLIRForm},
		{func(f *api.LFunc) { f.Name = "for" }, api.ErrLIRForm},
		{func(f *api.LFunc) { f.Blocks[1].Body = append(f.Blocks[1].Body, api.LIns{Op: api.InsPhi, Dst: 0}) }, api.ErrLIRForm},
		{func(f *api.LFunc) {
			f.Blocks[1].Body = append(f.Blocks[1].Body, api.LIns{Op: api.InsCall, Dst: -1, Imm: 3})
		}, api.ErrLIRForm},
		{func(f *api.LFunc) {
			f.Blocks[1].Body = append(f.Blocks[1].Body, api.LIns{Op: api.InsCall, Dst: 0, Imm: 2})
		}, api.ErrLIRForm},
		{func(f *api.LFunc) { f.Blocks = append(f.Blocks, api.LBlock{Term: back(-1)}) }, api.ErrLIRReach},
		{func(f *api.LFunc) { f.Blocks = append(f.Blocks, api.LBlock{Term: jump(len(f.Blocks))}) }, api.ErrLIRReach},
		{func(f *api.LFunc) { f.Blocks[0].Body = nil }, api.ErrLIRUnset},
		{func(f *api.LFunc) {
			f.Blocks[1].Body = append(f.Blocks[1].Body, api.LIns{Op: api.InsMove, Dst: 1, Args: []int{1}})
		}, api.ErrLIRUnset},
	}
	const text = `a()
		0: r0 const 1; jump 1
		1: print r0; return
		b()
		0: r0 const 1; jump 1
		1: print r0; return
		main()
		0: r0 const 1; jump 1
		1: print r0; return`
	long := make([]int, api.MaxInput+1)
	for i, x := range turns {
		for at := range 3 {
			for k, y := range turns {
				for other := range 3 {
					l := sample.LIR(text)
					for f := range l.Funcs {
						l.Funcs[f].Regs = 2
					}
					x.turn(&l.Funcs[at])
					if i != k || at != other {
						y.turn(&l.Funcs[other])
					}
					want := min(x.why, y.why) // as they are named
					if is := lir.Check(l); is != want {
						t.Errorf("the error %d in the function %d and the error %d in the function %d: %v, want %v", i, at, k, other, is, want)
					}
					if m, is := lir.New(l, long); m != nil || is != want {
						t.Errorf("New: %v, want %v", is, want)
					}
				}
			}
		}
	}
	// All three at once, from the last named to the first.
	l := sample.LIR(text)
	l.Funcs[0].Blocks[0].Body = nil
	l.Funcs[1].Blocks = append(l.Funcs[1].Blocks, api.LBlock{Term: back(-1)})
	if is := lir.Check(l); is != api.ErrLIRReach {
		t.Errorf("unset, then a block that can't be reached: %v", is)
	}
	l.Main = 3
	if is := lir.Check(l); is != api.ErrLIRForm {
		t.Errorf("these, and no main: %v", is)
	}
}

func TestP1403Reach(t *testing.T) {
	holdChecked(t, mainOf([]checked{
		{"one block", "0: return", api.OK},
		{"block 0 leads to itself", "0: jump 0", api.OK},
		{"a loop back to block 0", "0: r0 const 1; branch r0 1 2\n1: jump 0\n2: return", api.OK},
		{"a chain that goes backward", "0: jump 3\n1: return\n2: jump 1\n3: jump 2", api.OK},
		{"both ways to one block", "0: r0 const 1; branch r0 1 1\n1: return", api.OK},
		{"by the second way alone", "0: r0 const 1; branch r0 0 1\n1: return", api.OK},
		{"by the first way alone", "0: r0 const 1; branch r0 1 0\n1: return", api.OK},
		{"by a way that is never taken", "0: r0 const 0; branch r0 1 2\n1: r1 const 1; panic r1\n2: return", api.OK},
		{"a second block", "0: return\n1: return", api.ErrLIRReach},
		{"one that leads to itself", "0: return\n1: jump 1", api.ErrLIRReach},
		{"two that lead to each other", "0: return\n1: jump 2\n2: jump 1", api.ErrLIRReach},
		{"one that leads to block 0", "0: return\n1: jump 0", api.ErrLIRReach},
		{"one in the middle", "0: jump 2\n1: jump 2\n2: return", api.ErrLIRReach},
		{"the last one of many", "0: jump 1\n1: jump 2\n2: jump 3\n3: return\n4: return", api.ErrLIRReach},
		{"behind a panic", "0: r0 const 1; panic r0\n1: return", api.ErrLIRReach},
		{"it reads what is not set", "0: return\n1: print r0; return", api.ErrLIRReach},
		{"it alone sets what another one reads", "0: jump 1\n1: print r0; return\n2: r0 const 1; jump 1", api.ErrLIRReach},
	}))
}

func TestP1403Unset(t *testing.T) {
	holdChecked(t, mainOf([]checked{
		// In one block.
		{"never set", "0: print r0; return", api.ErrLIRUnset},
		{"set behind the read", "0: print r0; r0 const 1; return", api.ErrLIRUnset},
		{"set ahead of it", "0: r0 const 1; print r0; return", api.OK},
		{"set by the reading instruction itself", "0: r0 neg r0; return", api.ErrLIRUnset},
		{"moved to itself", "0: r0 move r0; return", api.ErrLIRUnset},
		{"set, then by the reading instruction itself", "0: r0 const 1; r0 neg r0; print r0; return", api.OK},
		{"the second Arg", "0: r0 const 1; r1 add r0 r2; return", api.ErrLIRUnset},
		{"the third Arg", "0: r0 const 1; store r0 r0 r1; return", api.ErrLIRUnset},
		{"the first Arg", "0: r0 const 1; store r1 r0 r0; return", api.ErrLIRUnset},
		{"set and never read", "0: r0 const 1; return", api.OK},
		{"by an input", "0: r0 input; print r0; return", api.OK},
		// Block 0 with predecessors: it is come to at the beginning with nothing set.
		{"set later in a loop of block 0", "0: print r0; r0 const 1; jump 0", api.ErrLIRUnset},
		{"set in the block that comes back to block 0", "0: r1 input; branch r1 1 2\n1: r0 const 1; jump 0\n2: print r0; return", api.ErrLIRUnset},
		{"read in block 0 alone, set in the other one", "0: print r0; jump 1\n1: r0 const 1; jump 0", api.ErrLIRUnset},
		{"set in block 0, read in the block that comes back", "0: r0 input; branch r0 1 2\n1: print r0; jump 0\n2: return", api.OK},
		// By a Term.
		{"a branch", "0: branch r0 1 1\n1: return", api.ErrLIRUnset},
		{"a branch of what is set", "0: r0 const 1; branch r0 1 1\n1: return", api.OK},
		{"a branch of what is set ahead", "0: r0 const 1; jump 1\n1: branch r0 1 2\n2: return", api.OK},
		{"a branch in a loop, set behind it", "0: jump 1\n1: branch r0 2 3\n2: r0 const 1; jump 1\n3: return", api.ErrLIRUnset},
		{"a panic", "0: panic r0", api.ErrLIRUnset},
		{"a panic of what is set", "0: r0 const 1; panic r0", api.OK},
		{"a panic of what another block sets", "0: r0 const 1; branch r0 1 2\n1: r1 const 2; jump 3\n2: r1 const 3; jump 3\n3: panic r1", api.OK},
		// On one way alone.
		{"on the first way", "0: r0 input; branch r0 1 2\n1: r1 const 1; jump 3\n2: jump 3\n3: print r1; return", api.ErrLIRUnset},
		{"on the second way", "0: r0 input; branch r0 1 2\n1: jump 3\n2: r1 const 1; jump 3\n3: print r1; return", api.ErrLIRUnset},
		{"on both", "0: r0 input; branch r0 1 2\n1: r1 const 1; jump 3\n2: r1 const 2; jump 3\n3: print r1; return", api.OK},
		{"on both, far ahead", "0: r0 input; branch r0 1 2\n1: r1 const 1; jump 3\n2: r1 const 2; jump 3\n3: jump 4\n4: branch r0 5 6\n5: jump 6\n6: print r1; return", api.OK},
		{"past the first way", "0: r0 const 1; branch r0 1 2\n1: r1 const 1; jump 2\n2: print r1; return", api.ErrLIRUnset},
		{"past it, set ahead", "0: r0 const 1; r1 const 5; branch r0 1 2\n1: r1 const 1; jump 2\n2: print r1; return", api.OK},
		{"a way that is never taken counts", "0: r0 const 1; branch r0 1 2\n1: return\n2: print r1; return", api.ErrLIRUnset},
		{"a way on which nobody reads it", "0: r0 input; branch r0 1 2\n1: r1 const 1; print r1; jump 3\n2: jump 3\n3: return", api.OK},
		{"a way that ends ahead of the read", "0: r0 input; branch r0 1 2\n1: return\n2: r1 const 1; jump 3\n3: print r1; return", api.OK},
		{"a way that panics ahead of the read", "0: r0 input; branch r0 1 2\n1: panic r0\n2: r1 const 1; jump 3\n3: print r1; return", api.OK},
		// In loops.
		{"set in a loop, read behind it", "0: r0 input; jump 1\n1: branch r0 2 3\n2: r1 const 1; r0 input; jump 1\n3: print r1; return", api.ErrLIRUnset},
		{"set in its head", "0: r0 input; jump 1\n1: r1 const 1; branch r0 2 3\n2: r0 input; jump 1\n3: print r1; return", api.OK},
		{"set in its body, read in its head", "0: r0 input; jump 1\n1: print r1; branch r0 2 3\n2: r1 const 1; jump 1\n3: return", api.ErrLIRUnset},
		{"set in its body, read in its body behind it", "0: r0 input; jump 1\n1: branch r0 2 3\n2: r1 const 1; print r1; jump 1\n3: return", api.OK},
		{"set ahead of the loop, read and set in it", "0: r0 input; r1 const 0; jump 1\n1: branch r0 2 3\n2: r1 add r1 r0; jump 1\n3: print r1; return", api.OK},
		{"set on one way in the loop", "0: r0 input; jump 1\n1: branch r0 2 3\n2: r1 const 1; jump 3\n3: branch r0 1 4\n4: print r1; return", api.ErrLIRUnset},
		{"a loop with two entries", "0: r0 input; branch r0 1 2\n1: print r1; jump 2\n2: r1 const 1; branch r0 1 3\n3: return", api.ErrLIRUnset},
		{"a loop with two entries, set at both", "0: r0 input; r1 const 2; branch r0 1 2\n1: print r1; jump 2\n2: r1 const 1; branch r0 1 3\n3: return", api.OK},
	}))
	holdChecked(t, []checked{
		// Params.
		{"a Param", "main()\n0: return\nf(r0)\n0: print r0; return", api.OK},
		{"a Param far on", "main()\n0: return\nf(r1)\n0: r0 input; jump 1\n1: branch r0 2 3\n2: jump 1\n3: panic r1", api.OK},
		{"a Param in a loop of block 0", "main()\n0: return\nf(r0)\n0: r0 neg r0; branch r0 0 1\n1: return", api.OK},
		{"a Param that is set", "main()\n0: return\nf(r0)\n0: r0 const 1; print r0; return", api.OK},
		{"another register", "main()\n0: return\nf(r0)\n0: print r1; return", api.ErrLIRUnset},
		{"eight Params and another register", "main()\n0: return\nf(r0, r1, r2, r3, r5, r6, r7, r8)\n0: r9 add r8 r4; return", api.ErrLIRUnset},
		{"eight Params", "main()\n0: return\nf(r0, r1, r2, r3, r5, r6, r7, r8)\n0: r4 add r8 r7; print r4; return", api.OK},
		{"another function's", "main()\n0: return\nf(r0)\n0: return\ng(r1)\n0: print r0; return", api.ErrLIRUnset},
		// A result.
		{"a return of what is not set", "main()\n0: return\nf() int\n0: return r0", api.ErrLIRUnset},
		{"a return of what is set", "main()\n0: return\nf() int\n0: r0 const 1; return r0", api.OK},
		{"a return of a Param", "main()\n0: return\nf(r0) int\n0: return r0", api.OK},
		// A call.
		{"what a call sets", "main()\n0: r0 call f; print r0; return\nf() int\n0: r0 const 1; return r0", api.OK},
		{"a call that sets nothing", "main()\n0: call f; print r0; return\nf() int\n0: r0 const 1; return r0", api.ErrLIRUnset},
		{"what the called one sets", "main()\n0: call f; print r0; return\nf()\n0: r0 const 1; return", api.ErrLIRUnset},
		{"a call of what it sets itself", "main()\n0: r0 call f r0; return\nf(r0) int\n0: return r0", api.ErrLIRUnset},
		{"an Arg of a call", "main()\n0: r1 const 1; call f r1 r0; return\nf(r0, r1)\n0: return", api.ErrLIRUnset},
	})
}

// TestP1403EachReader: every Op reads each of its Args ahead of setting its Dst.
func TestP1403EachReader(t *testing.T) {
	for _, s := range shapes() {
		if s.op == api.InsCall && s.imm == 1 {
			continue // f itself, which has no Params here
		}
		for unset := range s.args {
			l := sample.LIR(asked)
			f := &l.Funcs[1]
			f.Params, f.Regs = nil, 10
			for i := range s.args {
				if i != unset {
					f.Blocks[0].Body = append(f.Blocks[0].Body, api.LIns{Op: api.InsConst, Dst: i})
				}
			}
			x := s.right()
			for i := range x.Args {
				x.Args[i] = i
			}
			if s.sets {
				x.Dst = unset
			}
			f.Blocks[0].Body = append(f.Blocks[0].Body, x)
			if is := lir.Check(l); is != api.ErrLIRUnset {
				t.Errorf("%+v, the Arg %d not set: %v", x, unset, is)
			}
			f.Blocks[0].Body = append([]api.LIns{{Op: api.InsConst, Dst: unset}}, f.Blocks[0].Body...)
			if is := lir.Check(l); is != api.OK {
				t.Errorf("%+v, all set: %v", x, is)
			}
		}
	}
}

// TestP1403EachSetter: what any Op sets may be read behind it.
func TestP1403EachSetter(t *testing.T) {
	for _, s := range shapes() {
		l := sample.LIR(asked)
		f := &l.Funcs[1]
		f.Regs = 5
		x := s.right()
		if s.sets {
			x.Dst = 4
		}
		f.Blocks[0].Body = []api.LIns{x, {Op: api.InsMove, Dst: 0, Args: []int{4}}}
		want := api.ErrLIRUnset
		if s.sets {
			want = api.OK
		}
		if is := lir.Check(l); is != want {
			t.Errorf("%+v, its Dst read: %v", x, is)
		}
	}
}

// TestP1403ManyRegisters: any one of very many registers that many blocks read may be the one that is not set, or the first one of those.
func TestP1403ManyRegisters(t *testing.T) {
	const n = 200
	// Block 0 leads to 1 and 2, which set registers; 3 reads the first half of them, 4 the second one.
	program := func(sets func(r int) bool) api.LIR {
		blocks := []api.LBlock{{Body: []api.LIns{{Op: api.InsInput, Dst: n}}, Term: branch(n, 1, 2)}, {Term: jump(3)}, {Term: jump(3)}, {Term: jump(4)}, {Term: back(-1)}}
		for r := range n {
			blocks[1].Body = append(blocks[1].Body, set(r, 1))
			if sets(r) {
				blocks[2].Body = append(blocks[2].Body, set(r, 2))
			}
			reader := &blocks[3+r*2/n]
			reader.Body = append(reader.Body, show(r))
		}
		return inOne(n+1, blocks)
	}
	for i := range n {
		for what, sets := range map[string]func(r int) bool{
			"alone is not set":          func(r int) bool { return r != i },
			"is the first that is not":  func(r int) bool { return r < i },
			"is the last that is not":   func(r int) bool { return r > i },
			"alone is set of all":       func(r int) bool { return r == i },
			"and all like it are not":   func(r int) bool { return r%64 != i%64 },
			"and all about it are not":  func(r int) bool { return r/64 != i/64 },
			"and all like it alone are": func(r int) bool { return r%64 == i%64 },
		} {
			l := program(sets)
			if is := lir.Check(l); is != api.ErrLIRUnset {
				t.Errorf("on the second way the register %d %s: %v", i, what, is)
			}
			for r := range n {
				if !sets(r) {
					l.Funcs[0].Blocks[0].Body = append(l.Funcs[0].Blocks[0].Body, set(r, 0))
				}
			}
			if is := lir.Check(l); is != api.OK {
				t.Errorf("the register %d %s, but is set ahead: %v", i, what, is)
			}
		}
	}
}
