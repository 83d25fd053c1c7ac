// Package acts: what the instructions of LIR and of ALIR do, but for calls: see DOC.md, chapter 14, P1405.
package acts

import (
	"slices"

	"quern/api"
	"quern/heap"
	"quern/runs"
	"quern/word"
)

// World is what instructions act on, beside what an activation has of its own. What they ask of blocks, its heap does.
type World struct {
	*heap.Heap
	Told  runs.Told
	input []int // what is left of it
}

// New makes a world at the beginning of a run, with a copy of the input.
func New(input []int) World {
	return World{Heap: heap.New(), input: slices.Clone(input)}
}

// Ended is what is kept of a world when its run is over: nobody will ask for more than what was told.
func (w *World) Ended() World { return World{Heap: heap.New(), Told: w.Told} }

// Do does an instruction that is no call with the numbers of its Args, and tells the number for its Dst, if it has one and the run is not over.
func (w *World) Do(op, imm int, a [3]int) int {
	switch op {
	case api.InsConst:
		return imm
	case api.InsMove:
		return a[0]
	case api.InsLen:
		return w.length(a[0])
	case api.InsLoad:
		return w.load(a[0], a[1])
	case api.InsStore:
		w.store(a[0], a[1], a[2])
	case api.InsAlloc:
		return w.alloc(a[0])
	case api.InsInput:
		return w.take()
	case api.InsPrintInt:
		w.Told.Event(api.EventInt, a[0])
	case api.InsPrintBool:
		w.printBool(a[0])
	case api.InsTrapZero:
		w.trap(imm, a[0] == 0)
	case api.InsTrapNeg:
		w.trap(imm, a[0] < 0)
	case api.InsTrapBound:
		w.trap(imm, a[0] < 0 || a[0] >= a[1])
	default:
		return w.calculate(op, a[0], a[1])
	}
	return 0
}

func (w *World) calculate(op, a, b int) int {
	switch {
	case (op == api.InsDiv || op == api.InsRem) && b == 0:
		w.Told.Stuck(api.StuckZero)
	case (op == api.InsShl || op == api.InsShr) && b < 0:
		w.Told.Stuck(api.StuckShift)
	case op == api.InsNot && !isBool(a):
		w.Told.Stuck(api.StuckBool)
	}
	number, _ := word.Do(op, a, b)
	return number
}

func isBool(a int) bool { return a == 0 || a == 1 }

func (w *World) length(address int) int {
	n, is := w.Len(address)
	if !is {
		w.Told.Stuck(api.StuckBlock)
	}
	return n
}

func (w *World) load(address, i int) int {
	number, is := w.Get(address, i)
	if !is {
		w.noElement(address)
	}
	return number
}

func (w *World) store(address, i, number int) {
	if !w.Set(address, i, number) {
		w.noElement(address)
	}
}

// noElement tells why there is no such element: no block, or none of so many words. At 0 no block begins, though it has a length.
func (w *World) noElement(address int) {
	if _, is := w.Len(address); is && address != 0 {
		w.Told.Stuck(api.StuckElement)
	} else {
		w.Told.Stuck(api.StuckBlock)
	}
}

func (w *World) alloc(size int) int {
	if size < 0 {
		w.Told.Stuck(api.StuckBlock)
		return 0
	}
	address, is := w.Make(size)
	if !is {
		w.Told.Panic(api.PanicHeap, 0)
	}
	w.Told.Words(w.Words())
	return address
}

func (w *World) take() int {
	if len(w.input) == 0 {
		w.Told.Panic(api.PanicInput, 0)
		return 0
	}
	number := w.input[0]
	w.input = w.input[1:]
	return number
}

// printBool is stuck also where no more events may be told.
func (w *World) printBool(a int) {
	if isBool(a) {
		w.Told.Event(api.EventBool, a)
	} else {
		w.Told.Stuck(api.StuckBool)
	}
}

func (w *World) trap(kind int, springs bool) {
	if springs {
		w.Told.Panic(kind, 0)
	}
}
