package live_test

import (
	"slices"
	"sync"
	"testing"

	"quern/api"
	"quern/live"
	"quern/sample"
)

// given is a function in a program of its own, with a line of its blocks, or none.
type given struct {
	program api.LIR
	line    []int
}

// spaced is a function and a line in new memory, with spare room behind each list, in which stand numbers.
func spaced(f api.LFunc, line []int) given {
	all := append(slices.Clone(line), 0, 1, -9)
	return given{sample.SpacedLIR(api.LIR{Funcs: []api.LFunc{f}}), all[:len(line)]}
}

func (g given) function() api.LFunc { return g.program.Funcs[0] }

// shape tells all that there is, spare room included.
func (g given) shape() string {
	return sample.ShapeLIR(g.program) + tellLists([][]int{g.line[:cap(g.line)]})
}

func (g given) spoil() {
	sample.SpoilLIR(g.program)
	all := g.line[:cap(g.line)]
	for i := range all {
		all[i] = -77
	}
}

// asked tells what both calls answer.
func (g given) asked() string {
	ahead, behind, e := live.Live(g.function())
	list, why := live.Intervals(g.function(), g.line)
	return told(ahead, behind, list) + e.Error() + ", " + why.Error()
}

func told(ahead, behind [][]int, list []api.Interval) string {
	return tellLists(ahead) + "; " + tellLists(behind) + "; " + tellIntervals(list) + "; "
}

// goods are functions and lines of them, bads some that are not formed, or whose lines are none.
func goods() (list []given) {
	put := func(f api.LFunc, line []int) { list = append(list, spaced(f, line)) }
	put(first(example), []int{0, 1, 2})
	put(first(example), []int{2, 0, 1})
	put(base(), []int{0, 1, 2, 3})
	put(first("f()\n0: return"), []int{0})
	put(first("f()\n0: branch r0 0 0"), []int{0})
	d := sample.Dice(1705)
	for range 100 {
		f := draw(&d, 1+d.Below(6), 1+d.Below(9), 4)
		put(f, mixed(&d, len(f.Blocks)))
	}
	for range 10 {
		put(drawSparse(&d, 20, 600), mixed(&d, 20))
	}
	return list
}

func bads() (list []given) {
	for _, line := range [][]int{nil, {0, 1}, {0, 1, 1}, {0, 1, 2, 2}, {0, 1, 3}, {-1, 1, 2}} {
		list = append(list, spaced(first(example), line))
	}
	for _, turn := range []func(f *api.LFunc){
		func(f *api.LFunc) { f.Regs = 3 },
		func(f *api.LFunc) { f.Params = []int{0, 0} },
		func(f *api.LFunc) { f.Blocks[2].Term.To = []int{0} },
		func(f *api.LFunc) { f.Blocks[1].Body[0].Args = []int{0, 1} },
		func(f *api.LFunc) { f.Blocks = nil },
	} {
		f := first(example)
		turn(&f)
		list = append(list, spaced(f, []int{0, 1, 2}))
	}
	return list
}

func TestP1705NotChanged(t *testing.T) {
	for _, g := range append(goods(), bads()...) {
		before := g.shape()
		if is := g.asked(); g.shape() != before {
			t.Fatalf("P1705: what was handed in has changed: %s", is)
		}
	}
}

// TestP1705SpareRoom: what stands in spare room counts for nothing.
func TestP1705SpareRoom(t *testing.T) {
	for _, g := range append(goods(), bads()...) {
		tight := given{sample.SpacedLIR(g.program), slices.Clip(g.line)}
		f := &tight.program.Funcs[0]
		f.Params, f.Blocks = slices.Clip(f.Params), slices.Clip(f.Blocks)
		for i := range f.Blocks {
			b := &f.Blocks[i]
			b.Body, b.Term.To = slices.Clip(b.Body), slices.Clip(b.Term.To)
			for k := range b.Body {
				b.Body[k].Args = slices.Clip(b.Body[k].Args)
			}
		}
		if is, want := g.asked(), tight.asked(); is != want {
			t.Fatalf("P1705: with spare room %s, else %s", is, want)
		}
	}
}

func TestP1705NotKept(t *testing.T) {
	for _, g := range goods() {
		ahead, behind := liveOf(t, g.function())
		list := intervalsOf(t, g.function(), g.line)
		want := told(ahead, behind, list)
		g.spoil()
		if is := told(ahead, behind, list); is != want {
			t.Fatalf("P1705: what was handed in was written over, and %s is answered, want %s", is, want)
		}
	}
}

// TestP1705NewMemory writes over all of an answer, spare room included: it is seen neither in what was handed in nor in another answer, nor one list in another.
func TestP1705NewMemory(t *testing.T) {
	for _, g := range goods() {
		before, want := g.shape(), g.asked()
		ahead, behind := liveOf(t, g.function())
		list := intervalsOf(t, g.function(), g.line)
		otherAhead, otherBehind := liveOf(t, g.function())
		other := intervalsOf(t, g.function(), g.line)
		otherWant := told(otherAhead, otherBehind, other)
		if !sample.ApartLists(slices.Concat(ahead[:cap(ahead)], behind[:cap(behind)])) {
			t.Fatalf("P1705: two lists of an answer share memory: %s", want)
		}
		all := list[:cap(list)]
		for i := range all {
			all[i] = api.Interval{Reg: -7, From: -7, To: -7}
		}
		rest := tellLists(behind)
		clear(ahead[:cap(ahead)])
		if tellLists(behind) != rest {
			t.Fatal("P1705: one list of lists was written over, and the other one has changed")
		}
		clear(behind[:cap(behind)])
		if g.shape() != before || g.asked() != want || told(otherAhead, otherBehind, other) != otherWant {
			t.Fatalf("P1705: an answer was written over, and that is to be seen: %s, want %s", g.asked(), want)
		}
	}
}

// TestP1705Grown: what is put behind a list is seen in no other one.
func TestP1705Grown(t *testing.T) {
	for _, g := range goods() {
		before := g.shape()
		ahead, behind := liveOf(t, g.function())
		list := intervalsOf(t, g.function(), g.line)
		want := told(ahead, behind, list)
		for _, lists := range [][][]int{ahead, behind} {
			for _, registers := range lists {
				for n := range 5 {
					registers = append(registers, -n)
				}
			}
			for n := range 5 {
				lists = append(lists, []int{-n})
			}
		}
		for n := range 5 {
			_ = append(list, api.Interval{Reg: -n})
		}
		if told(ahead, behind, list) != want || g.shape() != before {
			t.Fatalf("P1705: lists were grown: %s, want %s", told(ahead, behind, list), want)
		}
	}
}

// TestP1705OtherFunction: calls over the same memory, with another function in it each time.
func TestP1705OtherFunction(t *testing.T) {
	d := sample.Dice(5071)
	room := draw(&d, 6, 5, 0)
	room.Params = make([]int, api.MaxParams)
	for b := range room.Blocks {
		room.Blocks[b] = api.LBlock{Body: make([]api.LIns, 20), Term: api.Term{To: make([]int, 2)}}
		for i := range room.Blocks[b].Body {
			room.Blocks[b].Body[i].Args = make([]int, api.MaxParams)
		}
	}
	line := make([]int, 6)
	for range 300 {
		f := draw(&d, 6, 5, 8)
		g := room
		g.Result, g.Regs = f.Result, f.Regs
		g.Params = g.Params[:copy(g.Params, f.Params)]
		for i, b := range f.Blocks {
			at := &g.Blocks[i]
			at.Body = at.Body[:len(b.Body)]
			for k, x := range b.Body {
				args := at.Body[k].Args[:api.MaxParams]
				at.Body[k] = x
				at.Body[k].Args = args[:copy(args, x.Args)]
			}
			to := at.Term.To[:2]
			at.Term = b.Term
			at.Term.To = to[:copy(to, b.Term.To)]
		}
		copy(line, mixed(&d, 6))
		hold(t, g, line)
		if is, want := (given{api.LIR{Funcs: []api.LFunc{g}}, line}).asked(), spaced(f, line).asked(); is != want {
			t.Fatalf("P1705: %s, want %s of %s", is, want, tell(f))
		}
	}
}

// TestP1705OneMemory: lists that are handed in may be pieces of one another.
func TestP1705OneMemory(t *testing.T) {
	all := []int{0, 1, 2, 0, 1}
	f := api.LFunc{Regs: 3, Params: all[:3], Blocks: []api.LBlock{
		{Body: []api.LIns{ins(api.InsStore, -1, all[1:4]...), ins(api.InsAdd, 0, all[2:4]...)}, Term: api.Term{Kind: api.TermBranch, Value: 1, To: all[1:3]}},
		{Body: []api.LIns{ins(api.InsNeg, 2, all[:1]...)}, Term: api.Term{Kind: api.TermJump, Value: -1, To: all[3:4]}},
		{Term: back(-1)},
	}}
	for _, line := range [][]int{all[:3], all[1:4], all[2:5]} {
		hold(t, f, line)
		if !slices.Equal(all, []int{0, 1, 2, 0, 1}) {
			t.Fatalf("P1705: %v", all)
		}
	}
	// and an answer may be handed in
	g := first("f()\n0: branch r0 1 1\n1: print r1; branch r2 0 2\n2: jump 1")
	ahead, _ := liveOf(t, g)
	hold(t, g, ahead[0])
	if tellLists(ahead) != "0 1 2 | 0 1 2 | 0 1 2" {
		t.Errorf("P1705: %v", ahead)
	}
}

// TestSameAgain asks for one function many times, several at once, with others between.
func TestSameAgain(t *testing.T) {
	d := sample.Dice(31415926)
	for _, g := range goods()[:40] {
		want := g.asked()
		other := spaced(draw(&d, 5, 5, 5), []int{4, 3, 2, 1, 0})
		answers := make([]string, 16)
		var waiting sync.WaitGroup
		for i := range answers {
			waiting.Go(func() {
				other.asked()
				answers[i] = g.asked()
			})
		}
		waiting.Wait()
		for _, is := range answers {
			if is != want {
				t.Fatalf("DOC.md, 4: %s, want %s", is, want)
			}
		}
	}
}
