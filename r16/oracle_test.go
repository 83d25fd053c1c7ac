package r16_test

import (
	"math/big"
	"regexp"
	"slices"
	"strings"

	"quern/api"
	"quern/sample"
)

// The oracle runs code by the chapter's sentences. It knows by a list of its own which activations there are, and where they go on.
type oracle struct {
	sample.World
	c         api.Code
	limits    api.Limits
	registers [16]int
	stack     map[int]int
	list      []activation
	taken     *big.Int // words of the heap
}

type activation struct {
	first, words int // its frame
	behind       int // where the one that called goes on
}

func oracleRun(c api.Code, input []int, limits api.Limits, fuel, events int) api.Outcome {
	o := &oracle{World: sample.World{Input: input, Fuel: fuel, Events: events}, c: c, limits: limits, stack: map[int]int{}, taken: new(big.Int)}
	return o.Watch(o.run)
}

func (o *oracle) run() {
	if o.c.Funcs[o.c.Main].Frame > o.limits.Stack {
		o.Trap(api.PanicStack)
	}
	o.Begin()
	o.list = []activation{{0, o.c.Funcs[o.c.Main].Frame, -1}}
	o.stack[0], o.stack[1] = -1, -1
	for at := o.c.Funcs[o.c.Main].First; ; {
		x := o.c.Ins[at]
		switch x.Op {
		case api.RCall:
			o.Step()
			at = o.call(x.N, at+1)
		case api.RRet:
			o.Step()
			o.End()
			last := o.list[len(o.list)-1]
			o.list = o.list[:len(o.list)-1]
			if len(o.list) == 0 {
				return
			}
			at = last.behind
		case api.RJmp, api.RBz, api.RBnz:
			o.Step()
			a := o.registers[x.A]
			if x.Op == api.RJmp || x.Op == api.RBz && a == 0 || x.Op == api.RBnz && a != 0 {
				at = x.N
			} else {
				at++
			}
		default:
			o.do(x)
			at++
		}
	}
}

func (o *oracle) call(function, behind int) int {
	own, f := o.list[len(o.list)-1], o.c.Funcs[function]
	next := own.first + own.words
	if left := o.limits.Stack - next; left < f.Frame {
		o.Trap(api.PanicStack)
	}
	o.Begin()
	o.list = append(o.list, activation{next, f.Frame, behind})
	o.stack[next], o.stack[next+1] = behind, own.first
	return f.First
}

func (o *oracle) do(x api.Ins) {
	a, b, c := o.registers[x.A], o.registers[x.B], o.registers[x.C]
	own := o.list[len(o.list)-1].first
	sets := func(n int) { o.registers[x.A] = n }
	switch x.Op {
	case api.RLdi:
		sets(o.Do(api.InsConst, x.N, nil))
	case api.RMov:
		sets(o.Do(api.InsMove, 0, []int{b}))
	case api.RLds:
		o.Step()
		sets(o.stack[own+x.N])
	case api.RSts:
		o.Step()
		o.stack[own+x.N] = a
	case api.RAlloc:
		after := new(big.Int).Add(o.taken, big.NewInt(int64(b)))
		after.Add(after, big.NewInt(1))
		if b >= 0 && after.Cmp(big.NewInt(int64(o.limits.Heap))) > 0 {
			o.Step()
			o.Trap(api.PanicHeap)
		}
		sets(o.Do(api.InsAlloc, 0, []int{b}))
		o.taken = after
	case api.RLen:
		sets(o.Do(api.InsLen, 0, []int{b}))
	case api.RLdx:
		sets(o.Do(api.InsLoad, 0, []int{b, c}))
	case api.RStx:
		o.Do(api.InsStore, 0, []int{b, c, a})
	case api.RTrapZ:
		o.Do(api.InsTrapZero, x.N, []int{a})
	case api.RTrapN:
		o.Do(api.InsTrapNeg, x.N, []int{a})
	case api.RTrapU:
		o.Do(api.InsTrapBound, x.N, []int{a, b})
	case api.RTrap:
		o.Step()
		if x.N == api.PanicUser {
			o.Panic(a)
		}
		o.Trap(x.N)
	case api.RInp:
		sets(o.Do(api.InsInput, 0, nil))
	case api.ROutI:
		o.Do(api.InsPrintInt, 0, []int{a})
	case api.ROutB:
		o.Do(api.InsPrintBool, 0, []int{a})
	default:
		sets(o.Do(likeOf[x.Op], 0, []int{b, c}[:len(sample.CodeFields(x.Op))-1]))
	}
}

// likeOf has the Op of the like name.
var likeOf = map[int]int{
	api.RAdd: api.InsAdd, api.RSub: api.InsSub, api.RMul: api.InsMul, api.RDiv: api.InsDiv, api.RRem: api.InsRem,
	api.RAnd: api.InsAnd, api.ROr: api.InsOr, api.RXor: api.InsXor, api.RBic: api.InsBic, api.RShl: api.InsShl, api.RShr: api.InsShr,
	api.REq: api.InsEq, api.RNe: api.InsNe, api.RLt: api.InsLt, api.RLe: api.InsLe, api.RNeg: api.InsNeg, api.RInv: api.InsInv, api.RNot: api.InsNot,
}

var name = regexp.MustCompile(`^[A-Za-z_][A-Za-z_0-9]{0,63}$`)

const words = " func var if else for return break continue print panic input len make int bool true false nil "

// oracleCheck tells what P2102 says, sentence by sentence.
func oracleCheck(c api.Code) bool {
	var names []string
	counts := new(big.Int)
	for _, f := range c.Funcs {
		if big.NewInt(int64(f.First)).Cmp(counts) != 0 || f.Count < 1 {
			return false
		}
		counts.Add(counts, big.NewInt(int64(f.Count)))
		if !name.MatchString(f.Name) || strings.Contains(words, " "+f.Name+" ") || slices.Contains(names, f.Name) {
			return false
		}
		names = append(names, f.Name)
		if f.Frame < 2 || f.Frame > 1<<40 || f.Params < 0 || f.Params > 8 {
			return false
		}
	}
	if counts.Cmp(big.NewInt(int64(len(c.Ins)))) != 0 || c.Main < 0 || c.Main >= len(c.Funcs) || c.Funcs[c.Main].Params != 0 {
		return false
	}
	for _, f := range c.Funcs {
		list := c.Ins[f.First : f.First+f.Count]
		for _, x := range list {
			if !oracleInstruction(c, f, x) {
				return false
			}
		}
		if last := list[len(list)-1].Op; last != api.RJmp && last != api.RRet && last != api.RTrap {
			return false
		}
	}
	return true
}

// table is P2101's: the fields of each Op.
var table = map[int]string{
	1: "A N", 2: "A B", 3: "A B C", 4: "A B C", 5: "A B C", 6: "A B C", 7: "A B C", 8: "A B C", 9: "A B C", 10: "A B C", 11: "A B C", 12: "A B C", 13: "A B C",
	14: "A B C", 15: "A B C", 16: "A B C", 17: "A B C", 18: "A B", 19: "A B", 20: "A B", 21: "N", 22: "A N", 23: "A N", 24: "A N", 25: "A N", 26: "N", 27: "",
	28: "A B", 29: "A B", 30: "A B C", 31: "A B C", 32: "A N", 33: "A N", 34: "A B N", 35: "A N", 36: "A", 37: "A", 38: "A",
}

func oracleInstruction(c api.Code, f api.RFunc, x api.Ins) bool {
	fields, is := table[x.Op]
	if !is {
		return false
	}
	for field, n := range map[string]int{"A": x.A, "B": x.B, "C": x.C} {
		if strings.Contains(fields, field) && (n < 0 || n > 15) || !strings.Contains(fields, field) && n != 0 {
			return false
		}
	}
	switch x.Op {
	case api.RLdi:
		return true
	case api.RJmp, api.RBz, api.RBnz:
		return f.First <= x.N && x.N < f.First+f.Count
	case api.RLds, api.RSts:
		return 2 <= x.N && x.N < f.Frame
	case api.RCall:
		return 0 <= x.N && x.N < len(c.Funcs)
	case api.RTrapZ, api.RTrapN, api.RTrapU:
		return 1 <= x.N && x.N <= 5
	case api.RTrap:
		return 1 <= x.N && x.N <= 6
	}
	return x.N == 0
}
