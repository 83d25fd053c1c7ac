package alir_test

import (
	"regexp"
	"slices"
	"strings"

	"quern/api"
	"quern/sample"
)

// The oracle runs a program by the chapter's sentences, an activation a call of its own.
type oracle struct {
	sample.World
	a api.ALIR
}

func oracleRun(a api.ALIR, input []int, fuel, events int) api.Outcome {
	o := &oracle{sample.World{Input: input, Fuel: fuel, Events: events}, a}
	return o.Watch(func() { o.activation(a.Funcs[a.Main], nil) })
}

func (o *oracle) activation(f api.AFunc, arguments []int) int {
	o.Begin()
	has := map[api.Loc]int{}
	for r := range 8 {
		has[reg(r)] = -1
	}
	for s := range f.Slots {
		has[slot(s)] = -1
	}
	for i, p := range f.Params {
		has[p] = arguments[i]
	}
	for b := 0; ; {
		for _, x := range f.Blocks[b].Body {
			var args []int
			for _, p := range x.Args {
				args = append(args, has[p])
			}
			n := o.instruction(x, args)
			for r := range 8 {
				if x.Op == api.InsCall && !slices.Contains(x.Saves, r) {
					has[reg(r)] = -1
				}
			}
			has[x.Dst] = n // also of none, which nobody reads
		}
		o.Step()
		switch t := f.Blocks[b].Term; t.Kind {
		case api.TermReturn:
			o.End()
			return has[t.Value]
		case api.TermPanic:
			o.Panic(has[t.Value])
		case api.TermJump:
			b = t.To[0]
		case api.TermBranch:
			if has[t.Value] != 0 {
				b = t.To[0]
			} else {
				b = t.To[1]
			}
		}
	}
}

func (o *oracle) instruction(x api.AIns, n []int) int {
	if x.Op != api.InsCall {
		return o.Do(x.Op, x.Imm, n)
	}
	o.Step()
	return o.activation(o.a.Funcs[x.Imm], n)
}

var name = regexp.MustCompile(`^[A-Za-z_][A-Za-z_0-9]{0,63}$`)

const words = " func var if else for return break continue print panic input len make int bool true false nil "

// oracleCheck tells what P1903 says, sentence by sentence.
func oracleCheck(a api.ALIR) api.Errno {
	var names []string
	for _, f := range a.Funcs {
		if !name.MatchString(f.Name) || strings.Contains(words, " "+f.Name+" ") || slices.Contains(names, f.Name) {
			return api.ErrALIRForm
		}
		names = append(names, f.Name)
	}
	if a.Main < 0 || a.Main >= len(a.Funcs) || len(a.Funcs[a.Main].Params) > 0 || a.Funcs[a.Main].Result != api.TypeNone {
		return api.ErrALIRForm
	}
	for _, f := range a.Funcs {
		if !oracleFunction(a, f) {
			return api.ErrALIRForm
		}
	}
	return api.OK
}

func isPlace(f api.AFunc, p api.Loc) bool {
	return p.Kind == api.LocReg && slices.Contains([]int{0, 1, 2, 3, 4, 5, 6, 7}, p.N) || p.Kind == api.LocSlot && 0 <= p.N && p.N < f.Slots
}

func arePlaces(f api.AFunc, list []api.Loc) bool {
	return !slices.ContainsFunc(list, func(p api.Loc) bool { return !isPlace(f, p) })
}

// table is P1401's: by the Op how many Args, whether a Dst, and which Imm (z: 0, n: any number, k: a panic's kind).
var table = map[int]string{
	1: "0 r n", 2: "2 r z", 3: "2 r z", 4: "2 r z", 5: "2 r z", 6: "2 r z", 7: "2 r z", 8: "2 r z", 9: "2 r z", 10: "2 r z", 11: "2 r z", 12: "2 r z",
	13: "2 r z", 14: "2 r z", 15: "2 r z", 16: "2 r z", 17: "1 r z", 18: "1 r z", 19: "1 r z", 20: "1 r z", 21: "2 r z", 22: "3 - z", 23: "1 r z", 24: "0 r z",
	26: "1 - z", 27: "1 - z", 28: "1 - k", 29: "1 - k", 30: "2 - k", 31: "1 r z",
}

func oracleFunction(a api.ALIR, f api.AFunc) bool {
	once := map[api.Loc]int{}
	for _, p := range f.Params {
		once[p]++
	}
	if f.Slots < 0 || f.Slots > 262144 || len(f.Params) > 8 || len(once) < len(f.Params) || !arePlaces(f, f.Params) || f.Result < 0 || f.Result > 3 || len(f.Blocks) == 0 {
		return false
	}
	for _, b := range f.Blocks {
		for _, x := range b.Body {
			if !oracleInstruction(a, f, x) {
				return false
			}
		}
		t := b.Term
		for _, to := range t.To {
			if to < 0 || to >= len(f.Blocks) {
				return false
			}
		}
		reads := t.Kind == api.TermBranch || t.Kind == api.TermPanic || t.Kind == api.TermReturn && f.Result != 0
		ways, is := map[int]int{api.TermJump: 1, api.TermBranch: 2, api.TermReturn: 0, api.TermPanic: 0}[t.Kind]
		if !is || len(t.To) != ways || reads && !isPlace(f, t.Value) || !reads && t.Value != (api.Loc{}) {
			return false
		}
	}
	return true
}

func oracleInstruction(a api.ALIR, f api.AFunc, x api.AIns) bool {
	none := x.Dst == api.Loc{}
	if !arePlaces(f, x.Args) || !none && !isPlace(f, x.Dst) {
		return false
	}
	if x.Op == api.InsCall {
		for i, r := range x.Saves {
			if r < 0 || r > 7 || i > 0 && r <= x.Saves[i-1] {
				return false
			}
		}
		return 0 <= x.Imm && x.Imm < len(a.Funcs) && len(x.Args) == len(a.Funcs[x.Imm].Params) && (none || a.Funcs[x.Imm].Result != 0)
	}
	s, is := table[x.Op]
	return is && len(x.Saves) == 0 && len(x.Args) == int(s[0]-'0') && none == (s[2] == '-') &&
		(s[4] == 'n' || s[4] == 'z' && x.Imm == 0 || s[4] == 'k' && 1 <= x.Imm && x.Imm <= 5)
}
