package build

import "quern/api"

// none is the Value of a block's end that uses none.
const none = -1

// block is there ahead of its beginning, so that others can lead to it.
type block struct {
	number  int
	from    []*block // that lead to it
	sealed  bool
	has     map[int]int // of variables: the values
	waiting map[int]int // of variables: Phis whose Args are asked when it is sealed; a For's head has it
	phis    []phi
	body    []int
	kind    int // of its end
	value   int
	to      []*block
}

// loop is a For that is built.
type loop struct{ head, behind *block }

func newBlock() *block { return &block{has: map[int]int{}} }

func (f *function) begin(b *block) {
	b.number = len(f.blocks)
	b.sealed = true
	f.blocks = append(f.blocks, b)
	f.open = b
}

// close ends the open block. It is always the last one that was begun: so what leads to a block is found by rising numbers.
func (f *function) close(kind, value int, to ...*block) {
	f.open.kind, f.open.value, f.open.to = kind, value, to
	for _, b := range to {
		b.from = append(b.from, f.open)
	}
	f.open = nil
}

// enter begins a block, if something leads to it.
func (f *function) enter(b *block) task {
	return func() {
		if len(b.from) > 0 {
			f.begin(b)
		}
	}
}

// leave closes the open block, if there is one, with a jump.
func (f *function) leave(to *block) task {
	return func() {
		if f.open != nil {
			f.close(api.TermJump, none, to)
		}
	}
}
