package alloc_test

import (
	"slices"
	"sync"
	"testing"

	"quern/alloc"
	"quern/api"
	"quern/lir"
	"quern/sample"
)

// busy has all that a list may be of: Params and Args, Saves, Tos; and some lists are empty.
const busy = `f(r0, r5) int regs 9
	0: r1 const 0; r2 eq r0 r1; branch r2 1 2
	1: r3 input; return r3
	2: r1 const 1; r0 sub r0 r1; r4 not r5; r3 call f r0 r4; r3 add r3 r0; printbool r5; return r3
	main()
	0: r0 const 0; r1 const 1; r2 const 4; r3 alloc r2; r4 move r0; jump 2
	1: r4 sub r4 r1; r5 load r3 r4; print r5; print r0; r7 len r3; trapbound 2 r4 r7; call g; return
	2: r5 call f r4 r1; store r3 r4 r5; r0 add r0 r5; r4 add r4 r1; r6 lt r4 r2; branch r6 2 1
	g()
	0: return`

func programs() []api.LIR {
	list := []api.LIR{sample.LIR(busy), sample.LIR(second), sample.LIR("main()\n0: return"), sample.LIR(holding(20, " call main;", false))}
	d := sample.Dice(2005)
	for range 60 {
		list = append(list, sample.DrawLIR(&d), drawWide(&d, 1+d.Below(20)))
	}
	return list
}

func TestP2005NotChanged(t *testing.T) {
	for _, l := range programs() {
		l = sample.SpacedLIR(l)
		before := sample.ShapeLIR(l)
		if allocated(t, l); sample.ShapeLIR(l) != before {
			t.Fatalf("P2005: what was handed in has changed:\n%s", sample.TellLIR(l))
		}
	}
	for _, x := range wrongs() { // nor by a call that answers an error
		l := three()
		x.turn(&l.Funcs[1])
		l = sample.SpacedLIR(l)
		before := sample.ShapeLIR(l)
		if _, e := alloc.Allocate(l); e != x.why || sample.ShapeLIR(l) != before {
			t.Errorf("P2005: %v: what was handed in has changed", e)
		}
	}
}

// TestP2005SpareRoom: what stands in spare room counts for nothing.
func TestP2005SpareRoom(t *testing.T) {
	for _, l := range programs() {
		if is, want := all(allocated(t, sample.SpacedLIR(l))), all(allocated(t, tight(l))); is != want {
			t.Fatalf("P2005: with spare room %s, else %s", is, want)
		}
	}
}

// tight is a program in new memory without spare room.
func tight(l api.LIR) api.LIR {
	l = sample.SpacedLIR(l)
	l.Funcs = slices.Clip(l.Funcs)
	for i := range l.Funcs {
		f := &l.Funcs[i]
		f.Params, f.Blocks = slices.Clip(f.Params), slices.Clip(f.Blocks)
		for b := range f.Blocks {
			block := &f.Blocks[b]
			block.Body, block.Term.To = slices.Clip(block.Body), slices.Clip(block.Term.To)
			for k := range block.Body {
				block.Body[k].Args = slices.Clip(block.Body[k].Args)
			}
		}
	}
	return l
}

func TestP2005NotKept(t *testing.T) {
	for _, l := range programs() {
		l = sample.SpacedLIR(l)
		a := allocated(t, l)
		want := sample.ShapeALIR(a)
		sample.SpoilLIR(l)
		if sample.ShapeALIR(a) != want {
			t.Fatalf("P2005: what was handed in is kept: it was written over, and\n%+v\nis answered", a)
		}
	}
}

func TestP2005NewMemory(t *testing.T) {
	for _, l := range programs() {
		l = sample.SpacedLIR(l)
		before := sample.ShapeLIR(l)
		a, other := allocated(t, l), allocated(t, l)
		want := sample.ShapeALIR(other)
		if !sample.PartedALIR(a) {
			t.Fatalf("P2005: two lists of an answer share memory, of\n%s", sample.TellLIR(l))
		}
		sample.SpoilALIR(a)
		if sample.ShapeLIR(l) != before {
			t.Fatal("P2005: an answer that was written over is to be seen in what was handed in")
		}
		if sample.ShapeALIR(other) != want || all(allocated(t, l)) != all(other) {
			t.Fatal("P2005: an answer that was written over is to be seen in another one")
		}
	}
}

// TestP2005Grown: what is put behind a list is seen in no other one.
func TestP2005Grown(t *testing.T) {
	more := []api.Loc{{Kind: -7}, {Kind: -8}, {Kind: -9}}
	for _, l := range programs() {
		l = sample.SpacedLIR(l)
		before := sample.ShapeLIR(l)
		a := allocated(t, l)
		want := all(a)
		for _, f := range a.Funcs {
			_ = append(f.Params, more...)
			_ = append(f.Blocks, api.ABlock{Term: api.ATerm{Kind: -1}})
			for _, b := range f.Blocks {
				_ = append(b.Term.To, -7, -8, -9)
				_ = append(b.Body, api.AIns{Op: -1}, api.AIns{Op: -2})
				for _, x := range b.Body {
					_ = append(x.Args, more...)
					_ = append(x.Saves, -7, -8, -9)
				}
			}
		}
		_ = append(a.Funcs, api.AFunc{Name: "more"})
		if all(a) != want || sample.ShapeLIR(l) != before {
			t.Fatal("P2005: what was appended to one list is to be seen in another one")
		}
	}
}

// TestP2005OtherProgram: calls over the same memory, with another program in it each time.
func TestP2005OtherProgram(t *testing.T) {
	const regs, most = 12, 200
	d := sample.Dice(5002)
	room := make([]api.LFunc, 4)
	for i := range room {
		room[i] = api.LFunc{Params: make([]int, api.MaxParams), Blocks: make([]api.LBlock, 8)}
		for b := range room[i].Blocks {
			room[i].Blocks[b] = api.LBlock{Body: make([]api.LIns, most), Term: api.Term{To: make([]int, 2)}}
			for k := range most {
				room[i].Blocks[b].Body[k].Args = make([]int, api.MaxParams)
			}
		}
	}
	for range 300 {
		l := drawWide(&d, regs)
		into := api.LIR{Funcs: room[:len(l.Funcs)], Main: l.Main}
		for i, f := range l.Funcs {
			write(&into.Funcs[i], f)
		}
		if a, want := hold(t, into), hold(t, l); all(a) != all(want) {
			t.Fatalf("P2005: of\n%s\nis made\n%s\nwant\n%s", sample.TellLIR(l), sample.TellALIR(a), sample.TellALIR(want))
		}
	}
}

// write writes a function over another one, which has room for it.
func write(to *api.LFunc, f api.LFunc) {
	params, blocks := to.Params[:cap(to.Params)], to.Blocks[:cap(to.Blocks)]
	*to = f
	to.Params, to.Blocks = params[:copy(params, f.Params)], blocks[:len(f.Blocks)]
	for b, block := range f.Blocks {
		at := &to.Blocks[b]
		body, next := at.Body[:cap(at.Body)], at.Term.To[:cap(at.Term.To)]
		at.Term = block.Term
		at.Body, at.Term.To = body[:len(block.Body)], next[:copy(next, block.Term.To)]
		for k, x := range block.Body {
			args := body[k].Args[:cap(body[k].Args)]
			body[k] = x
			body[k].Args = args[:copy(args, x.Args)]
		}
	}
}

// TestP2005OneMemory: lists that are handed in may be pieces of one another, and functions may have the same blocks.
func TestP2005OneMemory(t *testing.T) {
	numbers := []int{0, 1, 2, 0, 1}
	f := api.LFunc{Name: "f", Regs: 3, Params: numbers[:3], Blocks: []api.LBlock{
		{Body: []api.LIns{{Op: api.InsCall, Dst: -1, Args: numbers[1:4]}, {Op: api.InsAdd, Dst: 0, Args: numbers[2:4]}}, Term: api.Term{Kind: api.TermBranch, Value: 1, To: numbers[1:3]}},
		{Body: []api.LIns{{Op: api.InsNeg, Dst: 2, Args: numbers[:1]}}, Term: api.Term{Kind: api.TermJump, Value: -1, To: numbers[3:4]}},
		{Term: back(-1)},
	}}
	g := f
	g.Name = "g"
	l := api.LIR{Funcs: []api.LFunc{f, g, {Name: "main", Blocks: []api.LBlock{{Term: back(-1)}}}}, Main: 2}
	a := hold(t, l)
	if !slices.Equal(numbers, []int{0, 1, 2, 0, 1}) {
		t.Errorf("P2005: %v", numbers)
	}
	if !sample.PartedALIR(a) {
		t.Error("P2005: two lists of an answer share memory")
	}
}

// TestSameAgain asks for one program many times, several at once, with others between.
func TestSameAgain(t *testing.T) {
	d := sample.Dice(4)
	for _, l := range programs()[:40] {
		want, other := all(allocated(t, l)), drawWide(&d, 9)
		told := make([]string, 16)
		var waiting sync.WaitGroup
		for i := range told {
			waiting.Go(func() {
				alloc.Allocate(other)
				a, _ := alloc.Allocate(l)
				told[i] = all(a)
			})
		}
		waiting.Wait()
		for _, is := range told {
			if is != want {
				t.Fatalf("DOC.md, 4: %s\nwant\n%s", is, want)
			}
		}
	}
}

// TestSameInAnyOrder: what is made of a function hangs on it alone, wherever it stands and whatever stands beside it.
func TestSameInAnyOrder(t *testing.T) {
	d := sample.Dice(5)
	for range 200 {
		l := drawWide(&d, 1+d.Below(12))
		a := allocated(t, l)
		row := mixed(&d, len(l.Funcs))
		turned := sample.SpacedLIR(l)
		for i, at := range row { // the function i stands at the place at
			turned.Funcs[at] = l.Funcs[i]
		}
		turned.Main = row[l.Main]
		turned = sample.SpacedLIR(turned)
		for _, f := range turned.Funcs {
			for _, b := range f.Blocks {
				for k := range b.Body {
					if b.Body[k].Op == api.InsCall {
						b.Body[k].Imm = row[b.Body[k].Imm]
					}
				}
			}
		}
		if e := lir.Check(turned); e != api.OK {
			t.Fatal(e)
		}
		b := hold(t, turned)
		for i, at := range row {
			for n, block := range b.Funcs[at].Blocks {
				for k := range block.Body {
					if block.Body[k].Op == api.InsCall {
						block.Body[k].Imm = a.Funcs[i].Blocks[n].Body[k].Imm
					}
				}
			}
			if is, want := all(api.ALIR{Funcs: b.Funcs[at : at+1]}), all(api.ALIR{Funcs: a.Funcs[i : i+1]}); is != want {
				t.Fatalf("P2002: %s\nwant\n%s", is, want)
			}
		}
	}
}
