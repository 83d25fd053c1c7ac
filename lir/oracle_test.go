package lir_test

import (
	"regexp"
	"slices"
	"strings"

	"quern/api"
	"quern/sample"
)

// The oracle runs a program by the chapter's sentences, an activation a call of its own.
type oracle struct {
	sample.World
	l api.LIR
}

func oracleRun(l api.LIR, input []int, fuel, events int) api.Outcome {
	o := &oracle{sample.World{Input: input, Fuel: fuel, Events: events}, l}
	return o.Watch(func() { o.activation(l.Funcs[l.Main], nil) })
}

func (o *oracle) activation(f api.LFunc, arguments []int) int {
	o.Begin()
	has := map[int]int{}
	for i, p := range f.Params {
		has[p] = arguments[i]
	}
	get := func(r int) int {
		n, is := has[r]
		if !is {
			panic("P1408: a register that was not set in its activation")
		}
		return n
	}
	for b := 0; ; {
		for _, x := range f.Blocks[b].Body {
			var args []int
			for _, a := range x.Args {
				args = append(args, get(a))
			}
			if n := o.instruction(x, args); x.Dst != -1 {
				has[x.Dst] = n
			}
		}
		o.Step()
		switch t := f.Blocks[b].Term; t.Kind {
		case api.TermReturn:
			o.End()
			if t.Value == -1 {
				return 0
			}
			return get(t.Value)
		case api.TermPanic:
			o.Panic(get(t.Value))
		case api.TermJump:
			b = t.To[0]
		case api.TermBranch:
			if get(t.Value) != 0 {
				b = t.To[0]
			} else {
				b = t.To[1]
			}
		}
	}
}

func (o *oracle) instruction(x api.LIns, n []int) int {
	if x.Op != api.InsCall {
		return o.Do(x.Op, x.Imm, n)
	}
	o.Step()
	return o.activation(o.l.Funcs[x.Imm], n)
}

// oracleCheck tells what P1403 says.
func oracleCheck(l api.LIR) api.Errno {
	if !oracleForm(l) {
		return api.ErrLIRForm
	}
	lost, unset := false, false
	for _, f := range l.Funcs {
		met, reads := oracleWays(f)
		lost = lost || len(met) < len(f.Blocks)
		unset = unset || reads
	}
	switch {
	case lost:
		return api.ErrLIRReach
	case unset:
		return api.ErrLIRUnset
	}
	return api.OK
}

var name = regexp.MustCompile(`^[A-Za-z_][A-Za-z_0-9]{0,63}$`)

const words = " func var if else for return break continue print panic input len make int bool true false nil "

func oracleForm(l api.LIR) bool {
	var names []string
	for _, f := range l.Funcs {
		if !name.MatchString(f.Name) || strings.Contains(words, " "+f.Name+" ") || slices.Contains(names, f.Name) || !oracleFormed(f) {
			return false
		}
		names = append(names, f.Name)
		for _, b := range f.Blocks {
			for _, x := range b.Body {
				if x.Op != api.InsCall {
					continue
				}
				if x.Imm >= len(l.Funcs) || len(x.Args) != len(l.Funcs[x.Imm].Params) || x.Dst >= 0 && l.Funcs[x.Imm].Result == api.TypeNone {
					return false
				}
			}
		}
	}
	return 0 <= l.Main && l.Main < len(l.Funcs) && len(l.Funcs[l.Main].Params) == 0 && l.Funcs[l.Main].Result == api.TypeNone
}

// table is P1401's: by the Op how many Args, whether a Dst, and which Imm (z: 0, n: any number, k: a panic's kind, f: a function's).
var table = map[int]string{
	1: "0 r n", 2: "2 r z", 3: "2 r z", 4: "2 r z", 5: "2 r z", 6: "2 r z", 7: "2 r z", 8: "2 r z", 9: "2 r z", 10: "2 r z", 11: "2 r z", 12: "2 r z",
	13: "2 r z", 14: "2 r z", 15: "2 r z", 16: "2 r z", 17: "1 r z", 18: "1 r z", 19: "1 r z", 20: "1 r z", 21: "2 r z", 22: "3 - z", 23: "1 r z", 24: "0 r z",
	25: "? ? f", 26: "1 - z", 27: "1 - z", 28: "1 - k", 29: "1 - k", 30: "2 - k", 31: "1 r z",
}

func oracleFormed(f api.LFunc) bool {
	isReg := func(r int) bool { return 0 <= r && r < f.Regs }
	areRegs := func(list []int) bool {
		for _, r := range list {
			if !isReg(r) {
				return false
			}
		}
		return true
	}
	once := slices.Compact(slices.Sorted(slices.Values(f.Params)))
	if f.Regs < 0 || f.Regs > 262144 || len(f.Params) > 8 || len(once) != len(f.Params) || !areRegs(f.Params) || f.Result < 0 || f.Result > 3 || len(f.Blocks) == 0 {
		return false
	}
	for _, b := range f.Blocks {
		for _, x := range b.Body {
			s, is := table[x.Op]
			if !is || !areRegs(x.Args) {
				return false
			}
			args := s[0] == '?' && len(x.Args) <= 8 || s[0] != '?' && len(x.Args) == int(s[0]-'0')
			dst := s[2] != '-' && isReg(x.Dst) || s[2] != 'r' && x.Dst == -1
			imm := s[4] == 'n' || s[4] == 'z' && x.Imm == 0 || s[4] == 'k' && 1 <= x.Imm && x.Imm <= 5 || s[4] == 'f' && x.Imm >= 0
			if !args || !dst || !imm {
				return false
			}
		}
		t := b.Term
		for _, to := range t.To {
			if to < 0 || to >= len(f.Blocks) {
				return false
			}
		}
		reads := t.Kind == api.TermBranch || t.Kind == api.TermPanic || t.Kind == api.TermReturn && f.Result != 0
		ways, is := map[int]int{api.TermJump: 1, api.TermBranch: 2, api.TermReturn: 0, api.TermPanic: 0}[t.Kind]
		if !is || len(t.To) != ways || reads && !isReg(t.Value) || !reads && t.Value != -1 {
			return false
		}
	}
	return true
}

// oracleWays goes all ways through a function whose registers are few: a way is at a block, with the registers that it has set, one a bit. It tells the blocks that were met, and whether one was read that was not set.
func oracleWays(f api.LFunc) (map[int]int, bool) {
	type place struct {
		block int
		set   uint64
	}
	start := place{}
	for _, p := range f.Params {
		start.set |= 1 << p
	}
	blocks, been, todo, unset := map[int]int{}, map[place]int{start: 1}, []place{start}, false
	for len(todo) > 0 {
		at := todo[0]
		todo = todo[1:]
		b := f.Blocks[at.block]
		blocks[at.block]++
		read := func(r int) { unset = unset || at.set>>r&1 == 0 }
		for _, x := range b.Body {
			for _, a := range x.Args {
				read(a)
			}
			if x.Dst >= 0 {
				at.set |= 1 << x.Dst
			}
		}
		if b.Term.Value >= 0 {
			read(b.Term.Value)
		}
		for _, to := range b.Term.To {
			next := place{to, at.set}
			if been[next] == 0 {
				been[next]++
				todo = append(todo, next)
			}
		}
	}
	return blocks, unset
}
