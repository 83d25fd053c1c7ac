package sample

import (
	"math/big"

	"quern/api"
)

// World is what a run acts on, by the document's sentences: numbers without an end that are cut to 64 bits, a heap that is a list of blocks. It is slow and plain: runs are held against it.
type World struct {
	Input  []int
	Fuel   int
	Events int // how many may be told
	told   api.Outcome
	depth  int
	blocks []worldBlock
}

type worldBlock struct {
	address, length int
	words           map[int]int
}

// over is thrown where the run has ended, or goes on no more.
type over struct{}

// Watch tells what a run does, with Exit where it comes back.
func (w *World) Watch(run func()) (told api.Outcome) {
	defer func() {
		if r := recover(); r != nil {
			if r != (over{}) {
				panic(r)
			}
			told = w.told
		}
	}()
	run()
	w.end(api.Exit, 0, 0)
	return w.told
}

// Step counts a step that is made.
func (w *World) Step() {
	if w.Fuel == 0 {
		panic(over{})
	}
	w.Fuel--
	w.told.Steps++
}

func (w *World) end(end, kind, value int) {
	w.told.End, w.told.Kind, w.told.Value = end, kind, value
	panic(over{})
}

func (w *World) stuckIf(is bool, reason int) {
	if is {
		w.end(api.Stuck, reason, 0)
	}
}

// Panic ends the run, as TermPanic does.
func (w *World) Panic(value int) { w.end(api.Panic, api.PanicUser, value) }

// Trap ends the run with a panic of any other kind.
func (w *World) Trap(kind int) { w.end(api.Panic, kind, 0) }

// Begin begins an activation.
func (w *World) Begin() {
	w.depth++
	w.told.Depth = max(w.told.Depth, w.depth)
}

// End ends an activation.
func (w *World) End() { w.depth-- }

// Do makes the step of an operation that is no call, of these numbers, and tells the number that it gives.
func (w *World) Do(op, imm int, n []int) int {
	if op == api.InsPrintInt || op == api.InsPrintBool {
		w.print(op, n[0])
		return 0
	}
	w.Step()
	switch op {
	case api.InsConst:
		return imm
	case api.InsMove:
		return n[0]
	case api.InsInput:
		if len(w.Input) == 0 {
			w.end(api.Panic, api.PanicInput, 0)
		}
		next := w.Input[0]
		w.Input = w.Input[1:]
		return next
	case api.InsTrapZero, api.InsTrapNeg, api.InsTrapBound:
		if op == api.InsTrapZero && n[0] == 0 || op == api.InsTrapNeg && n[0] < 0 || op == api.InsTrapBound && !(0 <= n[0] && n[0] < n[1]) {
			w.end(api.Panic, imm, 0)
		}
		return 0
	case api.InsLen, api.InsLoad, api.InsStore:
		return w.memory(op, n)
	case api.InsAlloc:
		return w.alloc(n[0])
	}
	w.stuckIf((op == api.InsDiv || op == api.InsRem) && n[1] == 0, api.StuckZero)
	w.stuckIf((op == api.InsShl || op == api.InsShr) && n[1] < 0, api.StuckShift)
	w.stuckIf(op == api.InsNot && n[0] != 0 && n[0] != 1, api.StuckBool)
	return Arithmetic(op, n)
}

func (w *World) print(op, n int) {
	kind := api.EventInt
	if op == api.InsPrintBool {
		kind = api.EventBool
		if n != 0 && n != 1 {
			w.Step()
			w.end(api.Stuck, api.StuckBool, 0)
		}
	}
	if len(w.told.Events) == w.Events {
		panic(over{})
	}
	w.Step()
	w.told.Events = append(w.told.Events, api.Event{Kind: kind, Value: n})
}

func (w *World) memory(op int, n []int) int {
	if op == api.InsLen && n[0] == 0 {
		return 0
	}
	var block worldBlock // of the address 0: there is none
	for _, b := range w.blocks {
		if b.address == n[0] {
			block = b
		}
	}
	w.stuckIf(block.address == 0, api.StuckBlock)
	if op == api.InsLen {
		return block.length
	}
	w.stuckIf(n[1] < 0 || n[1] >= block.length, api.StuckElement)
	if op == api.InsStore {
		block.words[n[1]] = n[2]
		return 0
	}
	return block.words[n[1]]
}

func (w *World) alloc(size int) int {
	next := 1
	if len(w.blocks) > 0 {
		last := w.blocks[len(w.blocks)-1]
		next = last.address + last.length + 1
	}
	w.stuckIf(size < 0, api.StuckBlock)
	if size > api.MaxWords-next {
		w.end(api.Panic, api.PanicHeap, 0)
	}
	w.blocks = append(w.blocks, worldBlock{next, size, map[int]int{}})
	w.told.Words += size + 1
	return next
}

// Arithmetic is chapter 1's, by big numbers.
func Arithmetic(op int, n []int) int {
	a, b, c := big.NewInt(int64(n[0])), new(big.Int), new(big.Int)
	if len(n) > 1 {
		b.SetInt64(int64(n[1]))
	}
	truth := func(is bool) {
		if is {
			c.SetInt64(1)
		}
	}
	switch op {
	case api.InsAdd:
		c.Add(a, b)
	case api.InsSub:
		c.Sub(a, b)
	case api.InsMul:
		c.Mul(a, b)
	case api.InsDiv:
		c.Quo(a, b)
	case api.InsRem:
		c.Rem(a, b)
	case api.InsAnd:
		c.And(a, b)
	case api.InsOr:
		c.Or(a, b)
	case api.InsXor:
		c.Xor(a, b)
	case api.InsBic:
		c.AndNot(a, b)
	case api.InsShl:
		c.Lsh(a, uint(min(n[1], 64)))
	case api.InsShr:
		c.Rsh(a, uint(min(n[1], 64)))
	case api.InsEq:
		truth(a.Cmp(b) == 0)
	case api.InsNe:
		truth(a.Cmp(b) != 0)
	case api.InsLt:
		truth(a.Cmp(b) < 0)
	case api.InsLe:
		truth(a.Cmp(b) <= 0)
	case api.InsNeg:
		c.Neg(a)
	case api.InsInv:
		c.Not(a)
	case api.InsNot:
		c.Sub(big.NewInt(1), a)
	default:
		panic("no such operation")
	}
	return int(int64(c.And(c, new(big.Int).SetUint64(1<<64-1)).Uint64()))
}
