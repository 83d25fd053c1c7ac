package emit_test

import (
	"slices"
	"sync"
	"testing"

	"quern/api"
	"quern/emit"
	"quern/sample"
)

// busy has all that a list may be of: Params and Args, Saves, Tos; and some lists are empty.
const busy = `f(r1, r0, s1) int slots 3
	0: r2 const 0; s0 eq r1 r2; branch s0 1 2
	1: s2 input; return s2
	2: r3 call f r0 r1 s1 save 0 1 2; s2 add r3 r0; r4 not s0; printbool r4; call g; return s2
	main()
	0: r0 const 4; s0 alloc r0; r1 const 1; jump 2
	1: r5 load s0 r1; store s0 r1 r0; trapbound 2 r1 r0; panic r5
	2: r6 call f r0 r1 s0 save 0 1; r1 sub r1 r6; branch r1 1 2
	g()
	0: return`

func programs() []api.ALIR {
	list := []api.ALIR{sample.ALIR(busy), sample.ALIR(sample23), sample.ALIR("main()\n0: return"), turned()}
	d := sample.Dice(2309)
	for range 200 {
		list = append(list, sample.DrawALIR(&d))
	}
	return list
}

func all(c api.Code) string { return sample.TellCode(c) + string(rune('0'+c.Main)) }

func TestP2309NotChanged(t *testing.T) {
	for _, a := range programs() {
		a = sample.SpacedALIR(a)
		before := sample.ShapeALIR(a)
		if emitted(t, a); sample.ShapeALIR(a) != before {
			t.Fatalf("P2309: what was handed in has changed:\n%s", sample.TellALIR(a))
		}
	}
	for _, x := range turns() { // nor by a call that answers an error
		a := turned()
		x.turn(&a.Funcs[0])
		a = sample.SpacedALIR(a)
		before := sample.ShapeALIR(a)
		if _, e := emit.Emit(a); e != api.ErrALIRForm || sample.ShapeALIR(a) != before {
			t.Errorf("P2309: %s: %v: what was handed in has changed", x.what, e)
		}
	}
}

// TestP2309SpareRoom: what stands in spare room counts for nothing.
func TestP2309SpareRoom(t *testing.T) {
	for _, a := range programs() {
		if is, want := all(emitted(t, sample.SpacedALIR(a))), all(emitted(t, tight(a))); is != want {
			t.Fatalf("P2309: with spare room %s, else %s", is, want)
		}
	}
}

// tight is a program in new memory without spare room.
func tight(a api.ALIR) api.ALIR {
	a = sample.SpacedALIR(a)
	a.Funcs = slices.Clip(a.Funcs)
	for i := range a.Funcs {
		f := &a.Funcs[i]
		f.Params, f.Blocks = slices.Clip(f.Params), slices.Clip(f.Blocks)
		for b := range f.Blocks {
			block := &f.Blocks[b]
			block.Body, block.Term.To = slices.Clip(block.Body), slices.Clip(block.Term.To)
			for k := range block.Body {
				block.Body[k].Args, block.Body[k].Saves = slices.Clip(block.Body[k].Args), slices.Clip(block.Body[k].Saves)
			}
		}
	}
	return a
}

func TestP2309NotKept(t *testing.T) {
	for _, a := range programs() {
		a = sample.SpacedALIR(a)
		c := emitted(t, a)
		want := sample.ShapeCode(c)
		sample.SpoilALIR(a)
		if sample.ShapeCode(c) != want {
			t.Fatalf("P2309: what was handed in is kept: it was written over, and\n%+v\nis answered", c)
		}
	}
}

func TestP2309NewMemory(t *testing.T) {
	for _, a := range programs() {
		a = sample.SpacedALIR(a)
		before := sample.ShapeALIR(a)
		c, other := emitted(t, a), emitted(t, a)
		want := sample.ShapeCode(other)
		_ = append(c.Ins, api.Ins{Op: -7})
		_ = append(c.Funcs, api.RFunc{Name: "more"})
		sample.SpoilCode(c)
		if sample.ShapeALIR(a) != before {
			t.Fatal("P2309: an answer that was written over is to be seen in what was handed in")
		}
		if sample.ShapeCode(other) != want || all(emitted(t, a)) != all(other) {
			t.Fatal("P2309: an answer that was written over is to be seen in another one")
		}
	}
}

// TestP2309OneMemory: lists that are handed in may be pieces of one another, and functions may have the same blocks.
func TestP2309OneMemory(t *testing.T) {
	places := []api.Loc{reg(1), slot(0), reg(0), slot(1), reg(1)}
	numbers := []int{0, 1, 2, 0, 1}
	f := api.AFunc{Name: "f", Slots: 2, Params: places[:3], Blocks: []api.ABlock{
		{Body: []api.AIns{{Op: api.InsCall, Args: places[1:4], Saves: numbers[:3]}, {Op: api.InsAdd, Dst: slot(0), Args: places[2:4]}}, Term: api.ATerm{Kind: api.TermBranch, Value: slot(1), To: numbers[1:3]}},
		{Body: []api.AIns{{Op: api.InsNeg, Dst: reg(2), Args: places[:1]}}, Term: api.ATerm{Kind: api.TermJump, To: numbers[3:4]}},
		{Term: back(api.Loc{})},
	}}
	g := f
	g.Name = "g"
	a := api.ALIR{Funcs: []api.AFunc{f, g, {Name: "main", Blocks: []api.ABlock{{Term: back(api.Loc{})}}}}, Main: 2}
	hold(t, a)
	if !slices.Equal(numbers, []int{0, 1, 2, 0, 1}) || !slices.Equal(places, []api.Loc{reg(1), slot(0), reg(0), slot(1), reg(1)}) {
		t.Errorf("P2309: %v %v", numbers, places)
	}
}

// TestSameAgain asks for one program many times, several at once, with others between.
func TestSameAgain(t *testing.T) {
	d := sample.Dice(4)
	for _, a := range programs()[:40] {
		want, other := all(emitted(t, a)), sample.DrawALIR(&d)
		told := make([]string, 16)
		var waiting sync.WaitGroup
		for i := range told {
			waiting.Go(func() {
				emit.Emit(other)
				emit.Emit(api.ALIR{})
				c, _ := emit.Emit(a)
				told[i] = all(c)
			})
		}
		waiting.Wait()
		for _, is := range told {
			if is != want {
				t.Fatalf("DOC.md, 4: %s\nwant\n%s", is, want)
			}
		}
	}
}

// TestAlone: what is made of a function hangs on it alone and on where it stands.
func TestAlone(t *testing.T) {
	d := sample.Dice(5)
	for range 500 {
		a := sample.DrawALIR(&d)
		whole := emitted(t, a)
		alone := d.Below(len(a.Funcs))
		for i := range a.Funcs { // all others are nothing now, but for their heads
			if i != alone {
				a.Funcs[i].Blocks = []api.ABlock{{Term: jump(0)}}
			}
		}
		c := hold(t, a)
		is, want := c.Funcs[alone], whole.Funcs[alone]
		list := slices.Clone(c.Ins[is.First : is.First+is.Count])
		for k, x := range list {
			if x.Op == api.RJmp || x.Op == api.RBz || x.Op == api.RBnz {
				list[k].N += want.First - is.First
			}
		}
		is.First = want.First
		if is != want || !slices.Equal(list, whole.Ins[want.First:want.First+want.Count]) {
			t.Fatalf("P2301: %s alone: %+v %+v", is.Name, is, list)
		}
	}
}
