package heap_test

import (
	"testing"

	"quern/api"
	"quern/heap"
)

// oracle is a heap by the chapter's words alone: the blocks in a list, and all that was ever set, the last of it last.
type oracle struct {
	blocks  []oracleBlock
	history []oracleSet
}

type oracleBlock struct{ address, n int }

type oracleSet struct{ address, i, value int }

func (o *oracle) make(n int) (int, bool) {
	address := 1
	if k := len(o.blocks); k > 0 {
		address = o.blocks[k-1].address + o.blocks[k-1].n + 1
	}
	if n < 0 || uint64(address)+uint64(n) > api.MaxWords {
		return 0, false
	}
	o.blocks = append(o.blocks, oracleBlock{address, n})
	return address, true
}

func (o *oracle) len(address int) (int, bool) {
	for _, b := range o.blocks {
		if b.address == address {
			return b.n, true
		}
	}
	return 0, address == 0
}

func (o *oracle) get(address, i int) (int, bool) {
	if n, _ := o.len(address); i < 0 || i >= n {
		return 0, false
	}
	for k := len(o.history) - 1; k >= 0; k-- {
		if s := o.history[k]; s.address == address && s.i == i {
			return s.value, true
		}
	}
	return 0, true
}

func (o *oracle) set(address, i, value int) bool {
	_, ok := o.get(address, i)
	if ok {
		o.history = append(o.history, oracleSet{address, i, value})
	}
	return ok
}

func (o *oracle) words() int {
	sum := 0
	for _, b := range o.blocks {
		sum += b.n + 1
	}
	return sum
}

// dice draws numbers, the same ones in every run.
type dice uint64

func (d *dice) below(n int) int {
	*d ^= *d << 13
	*d ^= *d >> 7
	*d ^= *d << 17
	return int(uint64(*d) >> 1 % uint64(n))
}

func (d *dice) size(o *oracle) int {
	left := api.MaxWords - o.words()
	switch d.below(40) {
	case 0:
		return -1 - d.below(3)
	case 1:
		return left // one too many
	case 2:
		return most - d.below(10)
	case 3:
		return d.below(1 << 56)
	case 4:
		if len(o.blocks) > 20 {
			return max(0, left-1-d.below(8))
		}
	}
	return d.below(6)
}

// address is mostly a block's, and else near one.
func (d *dice) address(o *oracle) int {
	if len(o.blocks) == 0 || d.below(30) == 0 {
		return d.below(5) - 2
	}
	address := o.blocks[d.below(len(o.blocks))].address
	if d.below(5) == 0 {
		address += d.below(7) - 3
	}
	return address
}

// index is mostly a word's, at one of the block's ends, and else near one.
func (d *dice) index(o *oracle, address int) int {
	n, _ := o.len(address)
	switch d.below(20) {
	case 0:
		return least + d.below(3)
	case 1:
		return most - address - d.below(3)
	}
	if d.below(2) == 0 {
		return d.below(6) - 1
	}
	return n - d.below(5)
}

// turn makes one drawn call of both.
func (d *dice) turn(t *testing.T, h *heap.Heap, o *oracle) {
	t.Helper()
	address := d.address(o)
	i := d.index(o, address)
	switch d.below(8) {
	case 0:
		n := d.size(o)
		want, ok := o.make(n)
		holdMake(t, h, n, want, ok)
	case 1:
		want, ok := o.len(address)
		holdLen(t, h, address, want, ok)
	case 2, 3, 4:
		value := d.below(9) - 4
		holdSet(t, h, address, i, value, o.set(address, i, value))
	default:
		want, ok := o.get(address, i)
		holdGet(t, h, address, i, want, ok)
	}
	holdWords(t, h, o.words())
}

// whole asks everything that was ever set, and every block.
func whole(t *testing.T, h *heap.Heap, o *oracle) {
	t.Helper()
	for _, b := range o.blocks {
		holdLen(t, h, b.address, b.n, true)
		for i := -1; i <= min(b.n, 8); i++ {
			want, ok := o.get(b.address, i)
			holdGet(t, h, b.address, i, want, ok)
		}
	}
	for _, s := range o.history {
		want, ok := o.get(s.address, s.i)
		holdGet(t, h, s.address, s.i, want, ok)
	}
}

// TestDrawnCalls holds three heaps, which take turns, against an oracle each.
func TestDrawnCalls(t *testing.T) {
	d := dice(0x9e3779b97f4a7c15)
	full := 0
	for range 60 {
		heaps := [3]*heap.Heap{heap.New(), heap.New(), heap.New()}
		oracles := [3]*oracle{{}, {}, {}}
		for range 1500 {
			k := d.below(3)
			d.turn(t, heaps[k], oracles[k])
		}
		for k := range heaps {
			whole(t, heaps[k], oracles[k])
			if oracles[k].words() == api.MaxWords {
				full++
			}
		}
	}
	if full == 0 || full == 180 {
		t.Errorf("%d of the 180 heaps were full at the end: the draw is of one sort", full)
	}
}
