package code_test

import (
	"encoding/binary"
	"math"
	"slices"
	"strconv"
	"strings"
	"testing"

	"quern/api"
	"quern/code"
	"quern/sample"
)

// asked is code whose bytes are asked with one field turned.
const asked = `f(3) frame 9
	0: ldi r1 5; jmp 0
	main() frame 6
	2: bz r2 4; bnz r3 5; lds r4 2; sts r5 5; call g; trapz r6 1; trapn r7 5; trapu r8 r9 3; mov r0 r15; add r1 r2 r3; outi r3; ret
	g(8) frame 2
	14: trap r10 6`

// fieldsOf are the fields of bytes that are right.
func fieldsOf(b []byte) []span {
	_, o := oracleRead(b)
	return o.spans
}

// nthOf is the i-th field of that kind, from 0 on.
func nthOf(b []byte, what string, i int) span {
	for _, s := range fieldsOf(b) {
		if s.what == what {
			if i == 0 {
				return s
			}
			i--
		}
	}
	panic("no such field: " + what)
}

// withNumber are the bytes with that number in the field.
func withNumber(b []byte, s span, n uint64) []byte {
	b = slices.Clone(b)
	copy(b[s.from:s.to], binary.LittleEndian.AppendUint64(nil, n))
	return b
}

// numbersRow is a field, and which numbers it may have: those that turn nothing else, and those that are wrong.
type numbersRow struct {
	what         string
	i            int
	right, wrong []uint64
}

// minus is -n modulo 2^64.
func minus(n int) uint64 { return uint64(-n) }

func TestP2203Numbers(t *testing.T) {
	const top, stack = 1 << 63, api.MaxStack
	far := []uint64{1 << 8, 1 << 16, 1 << 31, 1 << 32, 1 << 40, top, top + 3, math.MaxUint64, minus(2)}
	wrong := func(list ...uint64) []uint64 { return append(list, far...) }
	b := write(t, sample.Code(asked))
	for _, row := range []numbersRow{
		{"mark", 0, []uint64{113}, []uint64{0, 112, 114, 81, 255}},
		{"mark", 1, []uint64{114}, []uint64{0, 113, 115, 82, 255}},
		{"mark", 2, []uint64{49}, []uint64{0, 1, 48, 50, 177}},
		{"mark", 3, []uint64{54}, []uint64{0, 6, 53, 55, 182}},
		{"functions", 0, []uint64{3}, []uint64{0}},
		{"Main", 0, []uint64{1}, []uint64{3, 4, 1 << 8, 1 << 16, 1 << 24, 1 << 31, math.MaxUint32}},
		{"length", 0, []uint64{1}, []uint64{0, 65, 66, 127, 128, 255}},
		{"length", 2, []uint64{1}, []uint64{0, 65, 255}},
		{"Frame", 0, []uint64{2, 3, 255, 256, 1 << 32, stack - 1, stack}, []uint64{0, 1, stack + 1, stack + 2, 2 * stack, 1 << 48, 1 << 56, top, top + 5, math.MaxUint64}},
		{"Frame", 1, []uint64{6, 7, stack}, []uint64{0, 1, stack + 1, top, math.MaxUint64}},
		{"Count", 0, []uint64{2}, []uint64{0}},
		{"Count", 1, []uint64{12}, []uint64{0}},
		{"Count", 2, []uint64{1}, []uint64{0}},
		{"Params", 0, []uint64{0, 1, 2, 7, 8}, []uint64{9, 10, 16, 128, 255}},
		{"Params", 1, []uint64{0}, []uint64{1, 2, 8, 9, 128, 255}}, // Main's
		{"Params", 2, []uint64{0, 8}, []uint64{9, 255}},
		{"N", 0, []uint64{0, 1, 5, top, math.MaxUint64, minus(7)}, nil}, // RLdi
		{"N", 1, []uint64{0, 1}, wrong(2, 3, 13)},                       // RJmp in f
		{"N", 2, []uint64{2, 3, 12, 13}, wrong(0, 1, 14, 15)},           // RBz in main
		{"N", 3, []uint64{2, 3, 12, 13}, wrong(0, 1, 14, 15)},           // RBnz
		{"N", 4, []uint64{2, 3, 4, 5}, wrong(0, 1, 6, 7)},               // RLds
		{"N", 5, []uint64{2, 3, 4, 5}, wrong(0, 1, 6, 7)},               // RSts
		{"N", 6, []uint64{0, 1, 2}, wrong(3, 4)},                        // RCall
		{"N", 7, []uint64{1, 2, 3, 4, 5}, wrong(0, 6, 7, 8)},            // RTrapZ
		{"N", 8, []uint64{1, 2, 3, 4, 5}, wrong(0, 6, 7, 8)},            // RTrapN
		{"N", 9, []uint64{1, 2, 3, 4, 5}, wrong(0, 6, 7, 8)},            // RTrapU
		{"N", 10, []uint64{1, 2, 3, 4, 5, 6}, wrong(0, 7, 8)},           // RTrap
	} {
		s := nthOf(b, row.what, row.i)
		for _, n := range row.right {
			turned := withNumber(b, s, n)
			if c, at, err := code.Read(turned); err != api.OK || at != 0 || !slices.Equal(write(t, c), turned) {
				t.Errorf("the %s number %d is %d: %d %v", row.what, row.i, n, at, err)
			}
		}
		for _, n := range row.wrong {
			holdWrong(t, row.what, withNumber(b, s, n), s.from)
		}
	}
}

func TestP2203Registers(t *testing.T) {
	b := write(t, sample.Code(asked))
	count := 0
	for _, s := range fieldsOf(b) {
		if s.what != "register" {
			continue
		}
		count++
		for n := range 256 {
			turned := withNumber(b, s, uint64(n))
			if n > 15 {
				holdWrong(t, "a register", turned, s.from)
			} else if c, at, err := code.Read(turned); err != api.OK || at != 0 || !slices.Equal(write(t, c), turned) {
				t.Errorf("a register %d: %d %v", n, at, err)
			}
		}
	}
	if count != 16 {
		t.Errorf("%d registers", count)
	}
}

// TestP2203Ops: each byte as an Op, first and last in a function; behind it what it uses.
func TestP2203Ops(t *testing.T) {
	for op := range 256 {
		uses := sample.CodeFields(op)
		is, isLast := 1 <= op && op <= 38, op == api.RJmp || op == api.RRet || op == api.RTrap
		b := write(t, sample.Code(exampleText))[:30]
		binary.LittleEndian.PutUint64(b[17:], 9)
		b = append(b, byte(op))
		for _, field := range uses {
			if field == 'N' {
				n := uint64(2)
				if op == api.RCall || op == api.RJmp || op == api.RBz || op == api.RBnz {
					n = 0
				}
				b = binary.LittleEndian.AppendUint64(b, n)
			} else {
				b = append(b, 7)
			}
		}
		if isLast {
			if c, at, err := code.Read(b); err != api.OK || at != 0 || c.Ins[0].Op != op {
				t.Errorf("%d as the last one: %d %v", op, at, err)
			}
		} else {
			holdWrong(t, "as the last one", b, 30)
		}
		b = append(b, api.RRet)
		if isLast { // one more is there than Count says
			holdWrong(t, "more", b, len(b)-1)
		}
		b[25] = 2
		if !is {
			holdWrong(t, "as the first one", b, 30)
		} else if c, at, err := code.Read(b); err != api.OK || at != 0 || c.Ins[0].Op != op || c.Ins[1].Op != api.RRet {
			t.Errorf("%d as the first one: %d %v", op, at, err)
		}
	}
}

// withName are the bytes of a function f and a function of that name behind it, which is Main.
func withName(name string) []byte {
	head := "71 72 31 36  02 00 00 00  01 00 00 00  01 66  02 00 00 00 00 00 00 00  01 00 00 00  00"
	b := append(inHex(head), byte(len(name)))
	b = append(b, name...)
	return append(b, inHex("02 00 00 00 00 00 00 00  01 00 00 00  00  1B 1B")...)
}

const nameAt = 12 + 15 + 1 // in withName's bytes

func TestP2203Names(t *testing.T) {
	long := strings.Repeat("n", 64)
	for _, name := range []string{"a", "Z", "_", "g", "ff", "F", "a1", "_9", "main", "Func", "funcs", "ifs", "nil0", "integer", "r0", long, "_" + long[1:], "a_B_9"} {
		if c, at, err := code.Read(withName(name)); err != api.OK || at != 0 || c.Funcs[1].Name != name {
			t.Errorf("%q: %d %v", name, at, err)
		}
	}
	for _, name := range strings.Fields(words) {
		holdWrong(t, strconv.Quote(name), withName(name), nameAt)
	}
	for _, name := range []string{"f", "1", "9a", "a b", " a", "a ", "a;", "a-b", "-", "a.b", "(", "a\n", "\na", "\ta", "a//", "//a", "é", "a\x00", "\x00", "aé", "a\xff", "\xff", long[1:] + " ", " " + long[1:], long[1:] + "-"} {
		holdWrong(t, strconv.Quote(name), withName(name), nameAt)
	}
	for _, length := range []int{65, 66, 128, 255} { // the length is wrong ahead of the name
		holdWrong(t, "a long name", withName(strings.Repeat("n", length)), nameAt-1)
		holdWrong(t, "a long name that is none", withName(strings.Repeat("-", length)), nameAt-1)
	}
	holdWrong(t, "no name", withName(""), nameAt-1)
}

// TestP2203EveryByteOfNames: each byte alone, first and last.
func TestP2203EveryByteOfNames(t *testing.T) {
	const letters = "ABCDEFGHIJKLMNOPQRSTUVWXYZabcdefghijklmnopqrstuvwxyz_"
	for n := range 256 {
		s := string([]byte{byte(n)})
		first := strings.Contains(letters, s)
		later := first || strings.Contains("0123456789", s)
		for name, is := range map[string]bool{s: first && s != "f", s + "x": first, "x" + s: later, "x" + s + "x": later} {
			if c, at, err := code.Read(withName(name)); is && (err != api.OK || at != 0 || c.Funcs[1].Name != name) {
				t.Errorf("%q: %d %v", name, at, err)
			}
			if !is {
				holdWrong(t, strconv.Quote(name), withName(name), nameAt)
			}
		}
	}
}

// TestP2203NamesAhead: the name of each function is held against those of all ahead of it.
func TestP2203NamesAhead(t *testing.T) {
	c := sample.Code("a()\n0: ret\nb()\n1: ret\nc()\n2: ret\nmain()\n3: ret\nd()\n4: ret")
	b := write(t, c)
	for i, letter := range []byte("abc") {
		for k := range 3 {
			s := nthOf(b, "name", k)
			turned := slices.Clone(b)
			turned[s.from] = letter
			if k == i {
				continue
			}
			holdWrong(t, "twice", turned, nthOf(b, "name", max(i, k)).from) // the later one is wrong
		}
		s := nthOf(b, "name", 4)
		turned := slices.Clone(b)
		turned[s.from] = letter
		holdWrong(t, "the last one", turned, s.from)
	}
}

// TestP2203Ends: bytes that end anywhere, also where the field ahead of the end is wrong, and where more follow.
func TestP2203Ends(t *testing.T) {
	b := write(t, sample.Code(asked))
	for n := range b {
		holdWrong(t, "cut off", b[:n], n)
		holdWrong(t, "cut off, no spare room", b[:n:n], n)
	}
	for _, s := range wrongFields(t, b) {
		turned := turnedField(b, s)
		for n := range len(b) + 1 {
			holdWrong(t, s.what, turned[:n], wrongOrEnd(s, n))
		}
	}
	for _, more := range []string{"\x00", "\x1b", "q", "qr16", string(b)} {
		holdWrong(t, "more behind", append(slices.Clone(b), more...), len(b))
	}
}

// wrongOrEnd is the place of a wrong field, where the bytes end at n: of a field that is not there whole nothing is wrong but that.
func wrongOrEnd(s span, n int) int {
	if n < s.to {
		return n
	}
	return s.from
}

// wrongFields are the fields that turnedField makes wrong: all but RLdi's N, which may be any.
func wrongFields(t *testing.T, b []byte) (list []span) {
	t.Helper()
	for _, s := range fieldsOf(b) {
		if s != nthOf(b, "N", 0) {
			list = append(list, s)
			holdWrong(t, s.what, turnedField(b, s), s.from)
		}
	}
	return list
}

// turnedField are the bytes with a field that is wrong.
func turnedField(b []byte, s span) []byte {
	b = slices.Clone(b)
	fill := byte(0xFF)
	if s.what == "functions" || s.what == "Count" || s.what == "length" {
		fill = 0
	}
	for i := s.from; i < s.to; i++ {
		b[i] = fill
	}
	return b
}

// TestP2203FirstOfTwo: of two wrong fields the one ahead counts.
func TestP2203FirstOfTwo(t *testing.T) {
	b := write(t, sample.Code(asked))
	wrong := wrongFields(t, b)
	if len(wrong) < 60 {
		t.Fatalf("only %d fields", len(wrong))
	}
	for i, s := range wrong {
		for _, later := range wrong[i+1:] {
			turned := turnedField(turnedField(b, later), s)
			holdWrong(t, s.what+" and "+later.what, turned, s.from)
		}
		holdWrong(t, s.what+" and more", append(turnedField(b, s), 0), s.from)
	}
}

// TestP2203EveryByte: each byte of some codes as each other one, held against the oracle.
func TestP2203EveryByte(t *testing.T) {
	for _, text := range []string{exampleText, asked, "a(1)\n0: ret\nmain()\n1: call a; call main; ret\nb(8)\n4: jmp 4"} {
		b := write(t, sample.Code(text))
		for at := range b {
			turned := slices.Clone(b)
			for n := range 256 {
				turned[at] = byte(n)
				holdOracle(t, turned)
				stopIfFailed(t)
			}
		}
	}
}

// holdOracle holds Read against the oracle, and Write of what Read takes.
func holdOracle(t *testing.T, b []byte) *oracle {
	t.Helper()
	want, o := oracleRead(b)
	if o.place >= 0 {
		holdWrong(t, o.what, b, o.place)
		return o
	}
	holdForm(t, "what the oracle takes", want, b)
	return o
}
