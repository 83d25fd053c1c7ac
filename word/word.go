// Package word: numbers of 64 bits: see DOC.md, chapter 1.
package word

import "quern/api"

// Add is a + b.
func Add(a, b int) int { return a + b }

// Sub is a - b.
func Sub(a, b int) int { return a - b }

// Mul is a times b.
func Mul(a, b int) int { return a * b }

// Div is a by b.
func Div(a, b int) int {
	if b == 0 {
		return 0
	}
	return a / b
}

// Rem is what is left of a by b.
func Rem(a, b int) int {
	if b == 0 {
		return 0
	}
	return a % b
}

// And has the bits that both have.
func And(a, b int) int { return a & b }

// Or has the bits that one of them has.
func Or(a, b int) int { return a | b }

// Xor has the bits that just one of them has.
func Xor(a, b int) int { return a ^ b }

// Bic has the bits of a that b does not have.
func Bic(a, b int) int { return a &^ b }

// Shl is a, moved to the left.
func Shl(a, b int) int {
	if b < 0 {
		return 0
	}
	return a << b
}

// Shr is a, moved to the right, its sign kept.
func Shr(a, b int) int {
	if b < 0 {
		return 0
	}
	return a >> b
}

// Neg is minus a.
func Neg(a int) int { return -a }

// Inv has the bits that a does not have.
func Inv(a int) int { return ^a }

// Do is what an operation of api (InsAdd to InsNot) gives; false: it is none of these.
func Do(op, a, b int) (int, bool) {
	if op < first || op > last {
		return 0, false
	}
	table := operations()
	return table[op-first](a, b), true
}

// The operations stand in api's numbers without a gap between these two.
const (
	first = api.InsAdd
	last  = api.InsNot
)

// operation gives a number of two; one of a single number does not look at b.
type operation func(a, b int) int

// operations makes the table in which Do finds an operation, by its number less first. The closures hold nothing of
// the outside, so that the table costs a copy and no memory of the heap, however often Do is called.
func operations() [last - first + 1]operation {
	return [...]operation{
		api.InsAdd - first: Add,
		api.InsSub - first: Sub,
		api.InsMul - first: Mul,
		api.InsDiv - first: Div,
		api.InsRem - first: Rem,
		api.InsAnd - first: And,
		api.InsOr - first:  Or,
		api.InsXor - first: Xor,
		api.InsBic - first: Bic,
		api.InsShl - first: Shl,
		api.InsShr - first: Shr,
		api.InsEq - first:  func(a, b int) int { return truth(a == b) },
		api.InsNe - first:  func(a, b int) int { return truth(a != b) },
		api.InsLt - first:  func(a, b int) int { return truth(a < b) },
		api.InsLe - first:  func(a, b int) int { return truth(a <= b) },
		api.InsNeg - first: func(a, _ int) int { return Neg(a) },
		api.InsInv - first: func(a, _ int) int { return Inv(a) },
		api.InsNot - first: func(a, _ int) int { return Sub(1, a) },
	}
}

// truth is a bool as a word.
func truth(is bool) int {
	if is {
		return 1
	}
	return 0
}
