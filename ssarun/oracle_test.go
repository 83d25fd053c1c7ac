package ssarun_test

import (
	"math/big"

	"quern/api"
)

// The oracle runs a program by the chapter's sentences, an activation a call of its own, with the arithmetic of big
// numbers and a heap that is a list of blocks.
type oracle struct {
	s       api.SSA
	input   []int
	fuel    int
	events  int // how many may be told
	outcome api.Outcome
	depth   int
	blocks  []oracleBlock
}

type oracleBlock struct {
	address, length int
	words           map[int]int
}

// over is thrown where the run has ended, or goes on no more.
type over struct{}

func oracleRun(s api.SSA, input []int, fuel, events int) (told api.Outcome) {
	o := &oracle{s: s, input: input, fuel: fuel, events: events}
	defer func() {
		if r := recover(); r != nil {
			if _, is := r.(over); !is {
				panic(r)
			}
			told = o.outcome
		}
	}()
	o.activation(s.Funcs[s.Main], nil)
	o.end(api.Exit, 0, 0)
	return o.outcome
}

func (o *oracle) step() {
	if o.fuel == 0 {
		panic(over{})
	}
	o.fuel--
	o.outcome.Steps++
}

func (o *oracle) end(end, kind, value int) {
	o.outcome.End, o.outcome.Kind, o.outcome.Value = end, kind, value
	panic(over{})
}

func (o *oracle) activation(f api.SFunc, arguments []int) int {
	o.depth++
	o.outcome.Depth = max(o.outcome.Depth, o.depth)
	has := map[int]int{}
	for i, p := range f.Params {
		has[p] = arguments[i]
	}
	get := func(v int) int {
		n, is := has[v]
		if !is {
			panic("a value that was not made")
		}
		return n
	}
	for b, way := 0, -1; ; {
		block := f.Blocks[b]
		was := map[int]int{}
		for v, n := range has {
			was[v] = n
		}
		for _, phi := range block.Phis {
			o.step()
			has[phi] = was[f.Values[phi].Args[way]]
		}
		for _, v := range block.Body {
			x := f.Values[v]
			var args []int
			for _, a := range x.Args {
				args = append(args, get(a))
			}
			if n := o.value(x, args); x.Type != api.TypeNone {
				has[v] = n
			}
		}
		o.step()
		switch t := block.Term; t.Kind {
		case api.TermReturn:
			o.depth--
			if t.Value == -1 {
				return 0
			}
			return get(t.Value)
		case api.TermPanic:
			o.end(api.Panic, api.PanicUser, get(t.Value))
		case api.TermJump:
			b, way = t.To[0], place(f, b, 0)
		case api.TermBranch:
			taken := 0
			if get(t.Value) == 0 {
				taken = 1
			}
			b, way = t.To[taken], place(f, b, taken)
		}
	}
}

// place tells where in its Preds the block that is come to has the way, by counting all ways to it.
func place(f api.SFunc, from, way int) int {
	n := 0
	for b, block := range f.Blocks {
		for w, to := range block.Term.To {
			if b == from && w == way {
				return n
			}
			if to == f.Blocks[from].Term.To[way] {
				n++
			}
		}
	}
	panic("no such way")
}

func (o *oracle) value(x api.Value, n []int) int {
	if x.Op == api.InsPrintInt || x.Op == api.InsPrintBool {
		o.print(x.Op, n[0])
		return 0
	}
	o.step()
	switch x.Op {
	case api.InsConst:
		return x.Imm
	case api.InsCall:
		return o.activation(o.s.Funcs[x.Imm], n)
	case api.InsInput:
		if len(o.input) == 0 {
			o.end(api.Panic, api.PanicInput, 0)
		}
		next := o.input[0]
		o.input = o.input[1:]
		return next
	case api.InsTrapZero, api.InsTrapNeg, api.InsTrapBound:
		if x.Op == api.InsTrapZero && n[0] == 0 || x.Op == api.InsTrapNeg && n[0] < 0 || x.Op == api.InsTrapBound && !(0 <= n[0] && n[0] < n[1]) {
			o.end(api.Panic, x.Imm, 0)
		}
		return 0
	case api.InsLen, api.InsLoad, api.InsStore, api.InsAlloc:
		return o.memory(x.Op, n)
	}
	if (x.Op == api.InsDiv || x.Op == api.InsRem) && n[1] == 0 {
		o.end(api.Stuck, api.StuckZero, 0)
	}
	if (x.Op == api.InsShl || x.Op == api.InsShr) && n[1] < 0 {
		o.end(api.Stuck, api.StuckShift, 0)
	}
	return arithmetic(x.Op, n)
}

func (o *oracle) print(op, n int) {
	if len(o.outcome.Events) == o.events {
		panic(over{})
	}
	o.step()
	kind := api.EventInt
	if op == api.InsPrintBool {
		kind = api.EventBool
	}
	o.outcome.Events = append(o.outcome.Events, api.Event{Kind: kind, Value: n})
}

func (o *oracle) memory(op int, n []int) int {
	if op == api.InsAlloc {
		return o.alloc(n[0])
	}
	var block oracleBlock
	for _, b := range o.blocks {
		if b.address == n[0] {
			block = b
		}
	}
	switch {
	case block.address != n[0]:
		panic("an address that is no block's")
	case op == api.InsLen:
		return block.length
	case n[0] == 0:
		o.end(api.Stuck, api.StuckBlock, 0)
	case n[1] < 0 || n[1] >= block.length:
		o.end(api.Stuck, api.StuckElement, 0)
	case op == api.InsStore:
		block.words[n[1]] = n[2]
		return 0
	}
	return block.words[n[1]]
}

func (o *oracle) alloc(size int) int {
	next := 1
	if len(o.blocks) > 0 {
		last := o.blocks[len(o.blocks)-1]
		next = last.address + last.length + 1
	}
	switch {
	case size < 0:
		o.end(api.Stuck, api.StuckBlock, 0)
	case size > api.MaxWords-next:
		o.end(api.Panic, api.PanicHeap, 0)
	}
	o.blocks = append(o.blocks, oracleBlock{next, size, map[int]int{}})
	o.outcome.Words += size + 1
	return next
}

// arithmetic is chapter 1's, by big numbers.
func arithmetic(op int, n []int) int {
	a, b, c := big.NewInt(int64(n[0])), new(big.Int), new(big.Int)
	if len(n) > 1 {
		b.SetInt64(int64(n[1]))
	}
	truth := func(is bool) {
		if is {
			c.SetInt64(1)
		}
	}
	switch op {
	case api.InsAdd:
		c.Add(a, b)
	case api.InsSub:
		c.Sub(a, b)
	case api.InsMul:
		c.Mul(a, b)
	case api.InsDiv:
		c.Quo(a, b)
	case api.InsRem:
		c.Rem(a, b)
	case api.InsAnd:
		c.And(a, b)
	case api.InsOr:
		c.Or(a, b)
	case api.InsXor:
		c.Xor(a, b)
	case api.InsBic:
		c.AndNot(a, b)
	case api.InsShl:
		c.Lsh(a, uint(min(n[1], 64)))
	case api.InsShr:
		c.Rsh(a, uint(min(n[1], 64)))
	case api.InsEq:
		truth(a.Cmp(b) == 0)
	case api.InsNe:
		truth(a.Cmp(b) != 0)
	case api.InsLt:
		truth(a.Cmp(b) < 0)
	case api.InsLe:
		truth(a.Cmp(b) <= 0)
	case api.InsNeg:
		c.Neg(a)
	case api.InsInv:
		c.Not(a)
	case api.InsNot:
		c.Sub(big.NewInt(1), a)
	default:
		panic("no such operation")
	}
	return int(int64(c.And(c, new(big.Int).SetUint64(1<<64-1)).Uint64()))
}
