package word_test

import (
	"math"
	"math/big"
	"testing"

	"quern/api"
	"quern/word"
)

const (
	least = math.MinInt
	most  = math.MaxInt
)

// numbers are what every operation is tried with, each with each: the edges, their neighbours, the powers of 2 and of
// -2 with theirs, and some numbers with mixed bits.
func numbers() []int {
	list := []int{least, least + 1, most, most - 1, 0, 5, 7, 10, 12, -5, -7, 99, -99}
	for i := range 64 {
		p := 1 << i
		list = append(list, p-1, p, p+1, -p-1, -p, -p+1)
	}
	mixed := uint64(0x9e3779b97f4a7c15)
	for range 40 {
		mixed ^= mixed << 13
		mixed ^= mixed >> 7
		mixed ^= mixed << 17
		list = append(list, int(mixed), int(mixed)>>40)
	}
	return list
}

// wrapped is the int that differs from x by a multiple of 2^64.
func wrapped(x *big.Int) int {
	circle := new(big.Int).Lsh(big.NewInt(1), 64)
	r := new(big.Int).Mod(x, circle)
	if r.Bit(63) == 1 {
		r.Sub(r, circle)
	}
	return int(r.Int64())
}

func number(a int) *big.Int { return big.NewInt(int64(a)) }

// unsigned is the number whose bits are those of a, as P101 says: a, or a + 2^64.
func unsigned(a int) *big.Int {
	x := number(a)
	if a < 0 {
		x.Add(x, new(big.Int).Lsh(big.NewInt(1), 64))
	}
	return x
}

// bits makes the int of which want tells each bit, of the bits of a and b there.
func bits(a, b int, want func(x, y uint) bool) int {
	x, y := unsigned(a), unsigned(b)
	sum := uint64(0)
	for i := range 64 {
		if want(x.Bit(i), y.Bit(i)) {
			sum += 1 << i
		}
	}
	return wrapped(new(big.Int).SetUint64(sum))
}

func wantAdd(a, b int) int { return wrapped(new(big.Int).Add(number(a), number(b))) }
func wantSub(a, b int) int { return wrapped(new(big.Int).Sub(number(a), number(b))) }
func wantMul(a, b int) int { return wrapped(new(big.Int).Mul(number(a), number(b))) }
func wantNeg(a, _ int) int { return wrapped(new(big.Int).Neg(number(a))) }
func wantNot(a, _ int) int { return wrapped(new(big.Int).Sub(big.NewInt(1), number(a))) }

func wantDiv(a, b int) int {
	if b == 0 {
		return 0
	}
	return wrapped(new(big.Int).Quo(number(a), number(b)))
}

func wantRem(a, b int) int {
	if b == 0 {
		return 0
	}
	cut := new(big.Int).Quo(number(a), number(b))
	return wrapped(cut.Sub(number(a), cut.Mul(cut, number(b))))
}

func wantAnd(a, b int) int { return bits(a, b, func(x, y uint) bool { return x == 1 && y == 1 }) }
func wantOr(a, b int) int  { return bits(a, b, func(x, y uint) bool { return x == 1 || y == 1 }) }
func wantXor(a, b int) int { return bits(a, b, func(x, y uint) bool { return x != y }) }
func wantBic(a, b int) int { return bits(a, b, func(x, y uint) bool { return x == 1 && y == 0 }) }
func wantInv(a, _ int) int { return bits(a, 0, func(x, _ uint) bool { return x == 0 }) }

// power is 2^b; from 128 on it stands still, for no shift can tell these from one another.
func power(b int) *big.Int {
	return new(big.Int).Lsh(big.NewInt(1), uint(min(b, 128)))
}

func wantShl(a, b int) int {
	if b < 0 {
		return 0
	}
	return wrapped(new(big.Int).Mul(number(a), power(b)))
}

func wantShr(a, b int) int {
	if b < 0 {
		return 0
	}
	down := new(big.Int).Div(number(a), power(b)) // with a divisor above 0 Div goes down, not toward 0
	return int(down.Int64())
}

func one(is bool) int {
	if is {
		return 1
	}
	return 0
}

func wantEq(a, b int) int { return one(number(a).Cmp(number(b)) == 0) }
func wantNe(a, b int) int { return one(number(a).Cmp(number(b)) != 0) }
func wantLt(a, b int) int { return one(number(a).Cmp(number(b)) < 0) }
func wantLe(a, b int) int { return one(number(a).Cmp(number(b)) <= 0) }

// ofOne lets a call of one number stand among those of two.
func ofOne(call func(a int) int) func(a, b int) int {
	return func(a, _ int) int { return call(a) }
}

// holdAll tries a call with every pair of numbers.
func holdAll(t *testing.T, name string, got, want func(a, b int) int) {
	t.Helper()
	list := numbers()
	for _, a := range list {
		for _, b := range list {
			if g, w := got(a, b), want(a, b); g != w {
				t.Fatalf("%s(%d, %d): %d, want %d", name, a, b, g, w)
			}
		}
	}
}

func TestP101Numbers(t *testing.T) {
	if a := word.Add(most, 1); a != least || uint64(most) != 1<<63-1 {
		t.Errorf("the ints do not end at 2^63 - 1: behind %d follows %d", uint64(most), a)
	}
	for _, a := range numbers() {
		x := unsigned(a)
		for i := range 64 {
			if set := word.And(a, word.Shl(1, i)) != 0; set != (x.Bit(i) == 1) {
				t.Fatalf("the bit %d of %d: %t", i, a, set)
			}
		}
	}
}

func TestP102Sums(t *testing.T) {
	holdAll(t, "Add", word.Add, wantAdd)
	holdAll(t, "Sub", word.Sub, wantSub)
	holdAll(t, "Mul", word.Mul, wantMul)
	for _, a := range numbers() {
		if g, w := word.Neg(a), wantNeg(a, 0); g != w {
			t.Errorf("Neg(%d): %d, want %d", a, g, w)
		}
	}
}

func TestP103Division(t *testing.T) {
	holdAll(t, "Div", word.Div, wantDiv)
	holdAll(t, "Rem", word.Rem, wantRem)
	for _, a := range numbers() {
		if d, r := word.Div(a, 0), word.Rem(a, 0); d != 0 || r != 0 {
			t.Errorf("%d by 0: %d, %d is left; want 0, 0", a, d, r)
		}
		for _, b := range numbers() {
			if r := word.Rem(a, b); r != 0 && (r < 0) != (a < 0) {
				t.Fatalf("Rem(%d, %d) is %d: its sign is not a's", a, b, r)
			}
		}
	}
}

func TestP104Bits(t *testing.T) {
	holdAll(t, "And", word.And, wantAnd)
	holdAll(t, "Or", word.Or, wantOr)
	holdAll(t, "Xor", word.Xor, wantXor)
	holdAll(t, "Bic", word.Bic, wantBic)
	for _, a := range numbers() {
		if g, w := word.Inv(a), wantInv(a, 0); g != w {
			t.Errorf("Inv(%d): %d, want %d", a, g, w)
		}
	}
}

func TestP105Shifts(t *testing.T) {
	holdAll(t, "Shl", word.Shl, wantShl)
	holdAll(t, "Shr", word.Shr, wantShr)
	for _, a := range numbers() {
		for _, b := range []int{-1, -2, -63, -64, -65, least + 1, least} {
			if l, r := word.Shl(a, b), word.Shr(a, b); l != 0 || r != 0 {
				t.Errorf("%d by the count %d: %d and %d, want 0 and 0", a, b, l, r)
			}
		}
		for _, b := range []int{64, 65, 127, 128, 1 << 8, 1 << 16, 1 << 32, 1<<32 + 1, most} {
			if l, r := word.Shl(a, b), word.Shr(a, b); l != 0 || r != -one(a < 0) {
				t.Errorf("%d by the count %d: %d and %d, want 0 and %d", a, b, l, r, -one(a < 0))
			}
		}
	}
}

// doing is an operation, with the call that Do answers as, where the chapter names one.
type doing struct {
	name string
	op   int
	call func(a, b int) int
	want func(a, b int) int
}

func doings() []doing {
	return []doing{
		{"InsAdd", api.InsAdd, word.Add, wantAdd},
		{"InsSub", api.InsSub, word.Sub, wantSub},
		{"InsMul", api.InsMul, word.Mul, wantMul},
		{"InsDiv", api.InsDiv, word.Div, wantDiv},
		{"InsRem", api.InsRem, word.Rem, wantRem},
		{"InsAnd", api.InsAnd, word.And, wantAnd},
		{"InsOr", api.InsOr, word.Or, wantOr},
		{"InsXor", api.InsXor, word.Xor, wantXor},
		{"InsBic", api.InsBic, word.Bic, wantBic},
		{"InsShl", api.InsShl, word.Shl, wantShl},
		{"InsShr", api.InsShr, word.Shr, wantShr},
		{"InsEq", api.InsEq, nil, wantEq},
		{"InsNe", api.InsNe, nil, wantNe},
		{"InsLt", api.InsLt, nil, wantLt},
		{"InsLe", api.InsLe, nil, wantLe},
		{"InsNeg", api.InsNeg, ofOne(word.Neg), wantNeg},
		{"InsInv", api.InsInv, ofOne(word.Inv), wantInv},
		{"InsNot", api.InsNot, nil, wantNot},
	}
}

func TestP106Do(t *testing.T) {
	for _, d := range doings() {
		do := func(a, b int) int {
			g, ok := word.Do(d.op, a, b)
			if !ok {
				t.Fatalf("Do(%s, %d, %d): false", d.name, a, b)
			}
			return g
		}
		holdAll(t, "Do "+d.name, do, d.want)
		if d.call != nil {
			holdAll(t, "Do "+d.name+" beside its call", do, d.call)
		}
	}
}

func TestP106DoOfNoOperation(t *testing.T) {
	ops := []int{least, least + 1, -1 << 32, -1, 0, api.InsConst, 1 << 8, 1 << 16, 1 << 31, 1 << 32, 1 << 63 >> 1, most - 1, most}
	for _, d := range doings() {
		ops = append(ops, -d.op, d.op+1<<8, d.op+1<<16, d.op+1<<32, d.op+least)
	}
	for op := api.InsLen; op <= 100; op++ {
		ops = append(ops, op)
	}
	for _, op := range ops {
		for _, a := range []int{0, 1, 7, -7, least, most} {
			for _, b := range []int{0, 1, 3, -3, 64, least, most} {
				if g, ok := word.Do(op, a, b); g != 0 || ok {
					t.Fatalf("Do(%d, %d, %d): %d %t, want 0 false", op, a, b, g, ok)
				}
			}
		}
	}
}

func TestExamples(t *testing.T) {
	for _, x := range []struct {
		name      string
		got, want int
	}{
		{"Add(2^63 - 1, 1)", word.Add(most, 1), least},
		{"Sub(-2^63, 1)", word.Sub(least, 1), most},
		{"Neg(-2^63)", word.Neg(least), least},
		{"Mul(2^32, 2^32)", word.Mul(1<<32, 1<<32), 0},
		{"Mul(2^62, 3)", word.Mul(1<<62, 3), -1 << 62},
		{"Div(-7, 2)", word.Div(-7, 2), -3},
		{"Rem(-7, 2)", word.Rem(-7, 2), -1},
		{"Div(7, -2)", word.Div(7, -2), -3},
		{"Rem(7, -2)", word.Rem(7, -2), 1},
		{"Div(-2^63, -1)", word.Div(least, -1), least},
		{"Rem(-2^63, -1)", word.Rem(least, -1), 0},
		{"Div(5, 0)", word.Div(5, 0), 0},
		{"Rem(5, 0)", word.Rem(5, 0), 0},
		{"Bic(12, 10)", word.Bic(12, 10), 4},
		{"Xor(12, 10)", word.Xor(12, 10), 6},
		{"Inv(0)", word.Inv(0), -1},
		{"Shl(1, 63)", word.Shl(1, 63), least},
		{"Shl(1, 64)", word.Shl(1, 64), 0},
		{"Shl(3, 62)", word.Shl(3, 62), -1 << 62},
		{"Shl(1, -1)", word.Shl(1, -1), 0},
		{"Shr(-5, 1)", word.Shr(-5, 1), -3},
		{"Shr(-5, 99)", word.Shr(-5, 99), -1},
		{"Shr(5, 99)", word.Shr(5, 99), 0},
		{"Shr(5, -1)", word.Shr(5, -1), 0},
	} {
		if x.got != x.want {
			t.Errorf("%s: %d, want %d", x.name, x.got, x.want)
		}
	}
}

func TestExamplesOfDo(t *testing.T) {
	for _, x := range []struct {
		op, a, b, want int
		ok             bool
	}{
		{api.InsLt, -1, 0, 1, true},
		{api.InsNe, 4, 4, 0, true},
		{api.InsNot, 1, 9, 0, true},
		{api.InsNot, 5, 0, -4, true},
		{api.InsConst, 1, 1, 0, false},
		{api.InsLen, 1, 1, 0, false},
		{-1, 1, 1, 0, false},
	} {
		if g, ok := word.Do(x.op, x.a, x.b); g != x.want || ok != x.ok {
			t.Errorf("Do(%d, %d, %d): %d %t, want %d %t", x.op, x.a, x.b, g, ok, x.want, x.ok)
		}
	}
}

func BenchmarkDo(b *testing.B) {
	b.ReportAllocs()
	sum := 0
	for i := range b.N {
		got, _ := word.Do(api.InsAdd+i%(api.InsNot-api.InsAdd+1), sum, i)
		sum ^= got
	}
}
