package acts_test

import (
	"math"
	"slices"
	"testing"

	"quern/acts"
	"quern/api"
	"quern/sample"
)

// act is an instruction with the numbers of its Args.
type act struct {
	op, imm int
	args    []int
}

// hold does acts one behind the other up to the end, and holds what they give and tell against the document's sentences.
func hold(t *testing.T, input []int, list ...act) {
	t.Helper()
	var want, is []int
	o := sample.World{Input: slices.Clone(input), Fuel: len(list), Events: api.MaxEvents}
	end := o.Watch(func() {
		for _, x := range list {
			want = append(want, o.Do(x.op, x.imm, x.args))
		}
	})
	w := acts.New(input)
	for _, x := range list {
		var a [3]int
		copy(a[:], x.args)
		number := w.Do(x.op, x.imm, a)
		w.Told.Made()
		if w.Told.Over() {
			break
		}
		is = append(is, number)
	}
	if !w.Told.Over() {
		w.Told.Exit()
	}
	if told := sample.Told(w.Told.Outcome()); told != sample.Told(end) || !slices.Equal(is, want) {
		t.Errorf("%v: %v, %s, want %v, %s", list, is, told, want, sample.Told(end))
	}
}

// blocks are three blocks: of three words at 1, of none at 5, of two at 6.
func blocks() []act {
	return []act{{api.InsAlloc, 0, []int{3}}, {api.InsAlloc, 0, []int{0}}, {api.InsAlloc, 0, []int{2}}, {api.InsStore, 0, []int{1, 2, 77}}, {api.InsStore, 0, []int{6, 0, -5}}}
}

func edges() []int {
	return []int{0, 1, -1, 2, 3, 4, 5, 6, 7, 8, 9, -7, 62, 63, 64, 1 << 32, -1 << 32, 1 << 62, 1<<62 - 9, 1<<62 - 10, math.MaxInt, math.MinInt, math.MinInt + 1}
}

// TestEachAct does every instruction at all edges, among blocks, and looks at these behind it.
func TestEachAct(t *testing.T) {
	looks := []act{{api.InsLoad, 0, []int{1, 2}}, {api.InsLoad, 0, []int{1, 0}}, {api.InsLoad, 0, []int{6, 0}}, {api.InsAlloc, 0, []int{1}}, {api.InsInput, 0, nil}, {api.InsInput, 0, nil}}
	try := func(op, imm int, args ...int) {
		t.Helper()
		hold(t, []int{8, 9}, slices.Concat(blocks(), []act{{op, imm, args}}, looks)...)
	}
	try(api.InsInput, 0)
	for _, a := range edges() {
		try(api.InsConst, a)
		for _, op := range []int{api.InsMove, api.InsNeg, api.InsInv, api.InsNot, api.InsLen, api.InsAlloc, api.InsPrintInt, api.InsPrintBool} {
			try(op, 0, a)
		}
		for kind := api.PanicDivide; kind <= api.PanicInput; kind++ {
			try(api.InsTrapZero, kind, a)
			try(api.InsTrapNeg, kind, a)
			for _, b := range edges() {
				try(api.InsTrapBound, kind, a, b)
			}
		}
		for _, b := range edges() {
			for op := api.InsAdd; op <= api.InsLe; op++ {
				try(op, 0, a, b)
			}
			try(api.InsLoad, 0, a, b)
			for _, c := range edges() {
				try(api.InsStore, 0, a, b, c)
			}
		}
	}
}

// TestEndings names what each ending is, for one case of each.
func TestEndings(t *testing.T) {
	for _, x := range []struct {
		act  act
		want string
	}{
		{act{api.InsConst, 3, nil}, "running 0 0 0"},
		{act{api.InsDiv, 0, []int{1, 0}}, "stuck zero 0 0 0"},
		{act{api.InsRem, 0, []int{1, 0}}, "stuck zero 0 0 0"},
		{act{api.InsShl, 0, []int{1, -1}}, "stuck shift 0 0 0"},
		{act{api.InsShr, 0, []int{1, -1}}, "stuck shift 0 0 0"},
		{act{api.InsNot, 0, []int{2}}, "stuck bool 0 0 0"},
		{act{api.InsPrintBool, 0, []int{-1}}, "stuck bool 0 0 0"},
		{act{api.InsLen, 0, []int{1}}, "stuck block 0 0 0"},
		{act{api.InsLoad, 0, []int{0, 0}}, "stuck block 0 0 0"},
		{act{api.InsStore, 0, []int{0, 0, 0}}, "stuck block 0 0 0"},
		{act{api.InsAlloc, 0, []int{-1}}, "stuck block 0 0 0"},
		{act{api.InsAlloc, 0, []int{api.MaxWords}}, "panic heap 0 0 0"},
		{act{api.InsAlloc, 0, []int{api.MaxWords - 1}}, "running 0 4611686018427387904 0"},
		{act{api.InsInput, 0, nil}, "panic input 0 0 0"},
		{act{api.InsTrapZero, api.PanicMake, []int{0}}, "panic make 0 0 0"},
		{act{api.InsTrapNeg, api.PanicShift, []int{-1}}, "panic shift 0 0 0"},
		{act{api.InsTrapBound, api.PanicIndex, []int{3, 3}}, "panic index 0 0 0"},
		{act{api.InsPrintInt, 0, []int{-4}}, "-4 running 0 0 0"},
		{act{api.InsPrintBool, 0, []int{1}}, "true running 0 0 0"},
	} {
		w := acts.New(nil)
		var a [3]int
		copy(a[:], x.act.args)
		w.Do(x.act.op, x.act.imm, a)
		if is := sample.Told(w.Told.Outcome()); is != x.want {
			t.Errorf("%v: %s, want %s", x.act, is, x.want)
		}
	}
}

// TestOfItsOwn: a world has a copy of its input, and nothing in common with another one.
func TestOfItsOwn(t *testing.T) {
	input := []int{1, 2}
	w, v := acts.New(input), acts.New(input)
	clear(input)
	for i := range 2 {
		if is := w.Do(api.InsInput, 0, [3]int{}); is != i+1 {
			t.Errorf("the input's number %d is %d", i, is)
		}
	}
	w.Do(api.InsAlloc, 0, [3]int{4})
	if is := v.Do(api.InsInput, 0, [3]int{}); is != 1 || v.Words() != 0 {
		t.Errorf("another one's: the input's first number is %d, %d words", is, v.Words())
	}
}

// TestEnded: what was told stays, and nothing else.
func TestEnded(t *testing.T) {
	w := acts.New([]int{1, 2})
	w.Do(api.InsAlloc, 0, [3]int{4})
	w.Do(api.InsPrintInt, 0, [3]int{9})
	w.Told.Exit()
	e := w.Ended()
	if is := sample.Told(e.Told.Outcome()); is != "9 exit 0 5 0" || e.Words() != 0 {
		t.Errorf("%s, %d words of heap", is, e.Words())
	}
}
