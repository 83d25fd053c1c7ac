package code

import (
	"quern/api"
	"quern/r16"
)

// sizeOf is how many bytes code has.
func sizeOf(c api.Code) int {
	size := len(mark) + 2*middle
	for _, f := range c.Funcs {
		size += small + len(f.Name) + great + middle + small
	}
	for _, x := range c.Ins {
		size += small + small*r16.RegistersOf(x.Op)
		if r16.HasNumber(x.Op) {
			size += great
		}
	}
	return size
}

// writer fills fields with what is code, and has its size.
type writer struct{ fields }

func (w *writer) number(size, n int) { put(w.cut(size), n) }

func (w *writer) text(s string) { copy(w.cut(len(s)), s) }

func (w *writer) code(c api.Code) {
	w.text(mark)
	w.number(middle, len(c.Funcs))
	w.number(middle, c.Main)
	for _, f := range c.Funcs {
		w.function(f)
	}
	for _, x := range c.Ins {
		w.instruction(x)
	}
}

func (w *writer) function(f api.RFunc) {
	w.number(small, len(f.Name))
	w.text(f.Name)
	w.number(great, f.Frame)
	w.number(middle, f.Count)
	w.number(small, f.Params)
}

func (w *writer) instruction(x api.Ins) {
	w.number(small, x.Op)
	registers := [...]int{x.A, x.B, x.C}
	for _, register := range registers[:r16.RegistersOf(x.Op)] {
		w.number(small, register)
	}
	if r16.HasNumber(x.Op) {
		w.number(great, x.N)
	}
}
