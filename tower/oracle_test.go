package tower_test

import (
	"math/bits"
	"slices"
	"strconv"
	"strings"
	"testing"

	"quern/alir"
	"quern/alloc"
	"quern/api"
	"quern/build"
	"quern/compile"
	"quern/dce"
	"quern/lex"
	"quern/lir"
	"quern/parse"
	"quern/r16"
	"quern/sample"
	"quern/sem"
	"quern/ssarun"
	"quern/tower"
	"quern/types"
	"quern/unssa"
)

// all is a text at each level: none of the passes refuses it (W3).
func all(t testing.TB, text string) tower.Mixed {
	t.Helper()
	var m tower.Mixed
	var list [8]api.Errno
	var fault api.Fault
	m.Program, fault = compile.Compile([]byte(text))
	tokens, _, e := lex.Tokens([]byte(text))
	tree, _, _, e2 := parse.Parse(tokens, len(text))
	list[0], list[1] = e, e2
	m.Tree, _, list[2] = types.Types(tree)
	m.Built, _, list[3] = build.Build(m.Tree)
	m.Clean, list[4] = dce.Clean(m.Built)
	m.LIR, list[5] = unssa.Lower(m.Clean)
	m.ALIR, list[6] = alloc.Allocate(m.LIR)
	if fault != (api.Fault{}) || list != [8]api.Errno{} {
		t.Fatalf("W3: refused: %+v %v: %s", fault, list, text)
	}
	return m
}

// start begins a run at a level; what a level refuses has none.
func start(m tower.Mixed, level int, input []int, limits api.Limits) (run sample.Machine, why api.Errno) {
	switch level {
	case 0:
		run, why = sem.New(m.Tree, input)
	case 1:
		run, why = ssarun.New(m.Built, input)
	case 2:
		run, why = ssarun.New(m.Clean, input)
	case 3:
		run, why = lir.New(m.LIR, input)
	case 4:
		run, why = alir.New(m.ALIR, input)
	case 5:
		run, why = r16.New(m.Program.Code, input, limits)
	}
	return run, why
}

// does is what a run at a level does in so many steps, of which there may be more than can be made if it ends before.
func does(m tower.Mixed, level int, input []int, limits api.Limits, steps int) api.Outcome {
	run, why := start(m, level, input, limits)
	if why != api.OK {
		return api.Outcome{End: api.Stuck}
	}
	for steps > 0 && run.Step() {
		steps--
	}
	return run.Outcome()
}

// counted are the numbers of P2503, by their names there.
func counted(m tower.Mixed) map[string]int {
	c := map[string]int{"N": m.Program.Nodes}
	for _, f := range m.Built.Funcs {
		c["V"] += len(f.Values)
		c["G"] += len(f.Values)
		c["B"] += len(f.Blocks)
		c["E"] -= len(f.Blocks)
	}
	for _, f := range m.Clean.Funcs {
		for _, v := range f.Values {
			c["G"]--
			if v.Op == api.InsPhi {
				c["P"]++
			}
		}
	}
	for _, f := range m.LIR.Funcs {
		for _, b := range f.Blocks {
			c["E"]++
			c["M"] += len(slices.DeleteFunc(slices.Clone(b.Body), func(x api.LIns) bool { return x.Op != api.InsMove }))
		}
	}
	for _, f := range m.ALIR.Funcs {
		for _, b := range f.Blocks {
			c["A"] += len(b.Body)
			c["A"]++
		}
	}
	return c
}

// table is that of P2503: a and b of the levels from 1 on.
func table(m tower.Mixed) [6][2]int {
	c := counted(m)
	return [6][2]int{{}, {4*c["N"] + 4, 2 + c["V"] + c["B"]}, {1 + c["G"], 1}, {2 + c["P"], 2 + c["M"] + c["E"]}, {1, 1}, {2 + c["A"], 64}}
}

// times is (n + 1) * each, if that is a fuel.
func times(n, each int) (int, bool) {
	high, low := bits.Mul64(uint64(n)+1, uint64(each))
	return int(low), high == 0 && low <= api.MaxFuel
}

func begins(long, short api.Outcome) bool {
	return len(short.Events) <= len(long.Events) && slices.Equal(short.Events, long.Events[:len(short.Events)])
}

// ended tells whether a run has ended with Exit, or with a panic that is no resource's.
func ended(o api.Outcome) bool {
	switch o.End {
	case api.Exit:
		return true
	case api.Panic:
		return o.Kind < api.PanicStack
	}
	return false
}

// only is what P2504 asks first, all what it asks then: each tells what was asked, and whether it is so.
func only(m tower.Mixed, s api.Script, k int) (asked, is bool) {
	y := does(m, k, s.Input, s.Limits, s.Fuel)
	steps, may := times(s.Fuel, table(m)[k][0])
	if y.End == api.Stuck || !may {
		return may, y.End != api.Stuck
	}
	x := does(m, k-1, s.Input, s.Limits, steps)
	same := x.End == y.End && x.Kind == y.Kind && x.Value == y.Value && len(x.Events) == len(y.Events)
	return true, begins(x, y) && (!ended(y) || same)
}

func allOf(m tower.Mixed, s api.Script, k int) (asked, is bool) {
	x := does(m, k-1, s.Input, s.Limits, s.Fuel)
	steps, may := times(s.Fuel, table(m)[k][1])
	limits := s.Limits
	if k == 5 {
		limits = api.Limits{Stack: max(x.Depth, 1) * frame(m), Heap: x.Words}
	}
	if !may || x.Words == api.MaxWords || limits.Stack > api.MaxStack || limits.Heap > api.MaxHeap {
		return false, true
	}
	y := does(m, k, s.Input, limits, steps)
	same := x.End == y.End && x.Kind == y.Kind && x.Value == y.Value && x.Words == y.Words && x.Depth == y.Depth && len(x.Events) == len(y.Events)
	return true, begins(y, x) && (!ended(x) || same)
}

// frame is the greatest one that is reported.
func frame(m tower.Mixed) int {
	var list []int
	for _, r := range m.Program.Reports {
		list = append(list, r.Frame)
	}
	return slices.Max(list)
}

// failing is the first level of which one of the two is not so, or 0.
func failing(m tower.Mixed, s api.Script) int {
	for k := 1; k <= 5; k++ {
		_, first := only(m, s, k)
		_, second := allOf(m, s, k)
		if !first || !second {
			return k
		}
	}
	return 0
}

// told are outcomes in words.
func told(list []api.Outcome) string {
	var b strings.Builder
	for level, o := range list {
		b.WriteString(strconv.Itoa(level) + ": " + sample.Told(o) + "\n")
	}
	return b.String()
}

// wanted are a script's outcomes, each by a run of its own.
func wanted(m tower.Mixed, s api.Script) []api.Outcome {
	var list []api.Outcome
	for level := range 6 {
		list = append(list, does(m, level, s.Input, s.Limits, s.Fuel))
	}
	return list
}
