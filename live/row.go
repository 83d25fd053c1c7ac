package live

import "math/bits"

// row is a set of numbers from 0 on, a bit for each.
type row []uint64

const wordBits = 64

// rowFor is an empty set for numbers below n.
func rowFor(n int) row { return make(row, (n+wordBits-1)/wordBits) }

func (r row) has(n int) bool { return r[n/wordBits]>>(n%wordBits)&1 == 1 }

func (r row) put(n int) { r[n/wordBits] |= 1 << (n % wordBits) }

func (r row) drop(n int) { r[n/wordBits] &^= 1 << (n % wordBits) }

// join puts all of another set, and tells whether there was a new one among them.
func (r row) join(other row) bool {
	grown := false
	for i, word := range other {
		grown = grown || word&^r[i] != 0
		r[i] |= word
	}
	return grown
}

// without drops all of another set.
func (r row) without(other row) {
	for i, word := range other {
		r[i] &^= word
	}
}

// all goes over the numbers, rising.
func (r row) all(yield func(n int) bool) {
	for i, word := range r {
		for ; word != 0; word &= word - 1 {
			if !yield(i*wordBits + bits.TrailingZeros64(word)) {
				return
			}
		}
	}
}

// last tells the greatest number, where none is greater than most; -1: there is none.
func (r row) last(most int) int {
	for i := most / wordBits; i >= 0; i-- {
		if r[i] != 0 {
			return i*wordBits + bits.Len64(r[i]) - 1
		}
	}
	return -1
}

// rows has a row for each block, all of one length, in one piece of memory.
type rows struct {
	words row
	long  int
}

// rowsFor has an empty set for numbers below n for each of so many blocks.
func rowsFor(blocks, n int) rows {
	long := len(rowFor(n))
	return rows{make(row, blocks*long), long}
}

func (r rows) of(block int) row { return r.words[block*r.long : (block+1)*r.long] }

// firsts tells of each number that is in some of the blocks' sets the first of these blocks.
func (r rows) firsts(blocks []int, tell func(block, n int)) {
	fresh, seen := make(row, r.long), make(row, r.long)
	for _, b := range blocks {
		copy(fresh, r.of(b))
		fresh.without(seen)
		seen.join(fresh)
		for n := range fresh.all {
			tell(b, n)
		}
	}
}
