package code_test

import (
	"encoding/binary"
	"runtime"
	"slices"
	"strconv"
	"strings"
	"testing"

	"quern/api"
	"quern/code"
	"quern/sample"
)

// allocated is how many bytes a call takes in all.
func allocated(call func()) int {
	var before, after runtime.MemStats
	runtime.ReadMemStats(&before)
	call()
	runtime.ReadMemStats(&after)
	return int(after.TotalAlloc - before.TotalAlloc)
}

// sized is code of one function that has just so many bytes, with room for one instruction more.
func sized(size int) api.Code {
	const head, long = 12 + 1 + 4 + 8 + 4 + 1, 11
	n, rest := (size-head)/long, (size-head)%long
	if rest == 0 { // the last one is short
		n, rest = n-1, long
	}
	list := make([]api.Ins, n+rest, n+rest+1)
	for i := range list {
		if i < n {
			list[i] = api.Ins{Op: api.RTrapU, A: i & 15, B: i >> 4 & 15, N: 1 + i%5}
		} else {
			list[i] = api.Ins{Op: api.RRet}
		}
	}
	return api.Code{Ins: list, Funcs: []api.RFunc{{Name: "main", Frame: 2, Count: len(list)}}}
}

func TestSized(t *testing.T) {
	for size := 31; size < 200; size++ {
		c := sized(size)
		holdForm(t, "sized", c, oracleWrite(c))
		if b := write(t, c); len(b) != size {
			t.Errorf("%d bytes, want %d", len(b), size)
		}
	}
}

// TestMaxCode: MaxCode bytes, and one more.
func TestMaxCode(t *testing.T) {
	c := sized(api.MaxCode)
	count := len(c.Ins)
	c.Ins, c.Funcs[0].Count = append(c.Ins, api.Ins{Op: api.RRet}), count+1
	if b, err := code.Write(c); err != api.ErrLong || len(b) != 0 {
		t.Errorf("P2202: one more: %v, %d bytes", err, len(b))
	}
	c.Funcs[0].Frame = 1 // and no code
	holdRefused(t, "P2202: one more, and no code", c)
	c.Ins, c.Funcs[0] = c.Ins[:count], api.RFunc{Name: "main", Frame: 2, Count: count}
	b := write(t, c)
	if len(b) != api.MaxCode {
		t.Fatalf("P2202: %d bytes", len(b))
	}
	c = api.Code{}
	runtime.GC() // so that two such codes are not there at one time
	read, at, err := code.Read(b)
	if err != api.OK || at != 0 || len(read.Ins) != count || read.Funcs[0].Count != count {
		t.Fatalf("P2203: %d %v, %d instructions", at, err, len(read.Ins))
	}
	for i, x := range read.Ins {
		if i < count-11 && x != (api.Ins{Op: api.RTrapU, A: i & 15, B: i >> 4 & 15, N: 1 + i%5}) {
			t.Fatalf("P2204: %+v at %d", x, i)
		}
	}
	holdTooLong(t, append(b, 0))
}

func holdTooLong(t *testing.T, b []byte) {
	t.Helper()
	if c, at, err := code.Read(b); err != api.ErrLong || at != 0 || !isZero(c) {
		t.Errorf("P2203: %d bytes: %d %v", len(b), at, err)
	}
}

// TestLongGarbage: bytes that are no code, at MaxCode and past it.
func TestLongGarbage(t *testing.T) {
	b := make([]byte, api.MaxCode+2)
	holdTooLong(t, b)
	holdTooLong(t, b[:api.MaxCode+1])
	if _, at, err := code.Read(b[:api.MaxCode]); err != api.ErrCodeBytes || at != 0 {
		t.Errorf("zeros: %d %v", at, err)
	}
	copy(b, inHex(exampleBytes)) // and zeros behind it
	if _, at, err := code.Read(b[:api.MaxCode]); err != api.ErrCodeBytes || at != 31 {
		t.Errorf("zeros behind: %d %v", at, err)
	}
	holdTooLong(t, b[:api.MaxCode+1])
}

// TestWildCounts: no number takes time or memory for what is not there.
func TestWildCounts(t *testing.T) {
	b := inHex(exampleBytes)
	const most = 1<<32 - 1
	functions, count := withNumber(b, span{from: 4, to: 8}, most), withNumber(b, span{from: 25, to: 29}, most)
	both := withNumber(functions, span{from: 25, to: 29}, most)
	lastMain := withNumber(functions, span{from: 8, to: 12}, most-1)
	counts := counted(1000, most, api.RRet)
	rets := append(slices.Clone(counts), slices.Repeat([]byte{api.RRet}, 1<<20)...)
	for what, x := range map[string]struct {
		b     []byte
		place int
	}{
		"as many functions as can be told":                  {functions, 31},
		"as many, the last of them Main":                    {lastMain, 31},
		"as many instructions":                              {count, 31},
		"both":                                              {both, 31},
		"both, and an instruction cut off":                  {both[:30], 30},
		"a thousand such functions, of one instruction":     {counts, len(counts)},
		"a thousand such functions, of a million of them":   {rets, len(rets)},
		"such ones, and a wrong one behind a million":       {append(slices.Clone(rets), 0), len(rets)},
		"such ones, and a wrong field behind a million":     {append(slices.Clone(rets), api.ROutI, 16), len(rets) + 1},
		"such ones, and a part of a field behind a million": {append(slices.Clone(rets), api.RLdi, 1, 7, 7), len(rets) + 4},
	} {
		taken := allocated(func() { holdWrong(t, what, x.b, x.place) })
		if taken > 1<<20 {
			t.Errorf("%s: %d bytes are taken", what, taken)
		}
	}
}

// counted are the bytes of so many functions, each of which says that it has count instructions, and of one instruction.
func counted(functions, count int, op byte) []byte {
	b := binary.LittleEndian.AppendUint32([]byte("qr16"), uint32(functions))
	b = binary.LittleEndian.AppendUint32(b, 0)
	for i := range functions {
		name := "f" + strconv.Itoa(i)
		b = append(append(b, byte(len(name))), name...)
		b = binary.LittleEndian.AppendUint64(b, 2)
		b = binary.LittleEndian.AppendUint32(b, uint32(count))
		b = append(b, 0)
	}
	return append(b, op)
}

// TestTargetsOfWildCounts: numbers of instructions go by what Counts say, not by what is there.
func TestTargetsOfWildCounts(t *testing.T) {
	for target, place := range map[uint64]int{0: 39, 1<<32 - 2: 39, 1<<32 - 1: 31, 1 << 32: 31, 1 << 63: 31} {
		b := withNumber(inHex(exampleBytes), span{from: 25, to: 29}, 1<<32-1)
		b = binary.LittleEndian.AppendUint64(append(b[:30], api.RJmp), target)
		holdWrong(t, "a target "+strconv.FormatUint(target, 10), b, place)
	}
}

// TestMemoryOfCode: what Read answers takes what it has; what Write answers, its bytes.
func TestMemoryOfCode(t *testing.T) {
	const n = 1 << 18
	c := api.Code{Ins: slices.Repeat([]api.Ins{{Op: api.RRet}}, n), Funcs: []api.RFunc{{Name: "main", Frame: 2, Count: n}}}
	var b []byte
	if taken := allocated(func() { b = write(t, c) }); taken > n+1<<16 || len(b) != 30+n {
		t.Errorf("Write takes %d bytes for %d", taken, len(b))
	}
	var read api.Code
	if taken := allocated(func() { read, _, _ = code.Read(b) }); taken > 40*n+1<<16 || !same(read, c) {
		t.Errorf("Read takes %d bytes for %d instructions", taken, n)
	}
	if taken := allocated(func() { holdWrong(t, "more behind", append(b, 0), len(b)) }); taken > 2*n+1<<16 { // the bytes alone, with their room
		t.Errorf("Read takes %d bytes for none", taken)
	}
}

// TestManyFunctions: functions of all lengths of names, in which each calls another one.
func TestManyFunctions(t *testing.T) {
	const n = 200000
	var c api.Code
	for i := range n {
		name := "f" + strconv.Itoa(i) + "_"
		name += strings.Repeat("x", i%(api.MaxName-len(name)+1))
		c.Funcs = append(c.Funcs, api.RFunc{Name: name, Frame: 2 + i, First: 2 * i, Count: 2, Params: i % 9})
		c.Ins = append(c.Ins, api.Ins{Op: api.RCall, N: (i * 7919) % n}, api.Ins{Op: api.RJmp, N: 2*i + 1})
	}
	c.Main = n - n%9
	c.Funcs[c.Main].Params = 0
	b := oracleWrite(c)
	holdForm(t, "many functions", c, b)
	last := len(b) - 8
	holdWrong(t, "the last target", withNumber(b, span{from: last, to: len(b)}, 2*n), last)
	holdWrong(t, "the last target", withNumber(b, span{from: last, to: len(b)}, 2*n-3), last)
	if _, err := code.Write(withTwice(c)); err != api.ErrCodeForm {
		t.Errorf("two of one name: %v", err)
	}
	twice := oracleWrite(withTwice(c))
	place := len(oracleWrite(api.Code{Funcs: c.Funcs[:n-1]})) + 1
	holdWrong(t, "two of one name", twice, place)
}

// withTwice is the code with the first function's name for the last one too.
func withTwice(c api.Code) api.Code {
	c.Funcs = slices.Clone(c.Funcs)
	c.Funcs[len(c.Funcs)-1].Name = c.Funcs[0].Name
	return c
}

// TestLongDrawn: many drawn codes in one, and their first bytes.
func TestLongDrawn(t *testing.T) {
	d := sample.Dice(22)
	var c api.Code
	for len(c.Ins) < 300000 { // one drawn code behind the other, under names of its own
		x := sample.DrawCode(&d)
		functions, first := len(c.Funcs), len(c.Ins)
		for _, f := range x.Funcs {
			f.Name, f.First = "f"+strconv.Itoa(len(c.Funcs)), f.First+first
			c.Funcs = append(c.Funcs, f)
		}
		for _, i := range x.Ins {
			switch i.Op {
			case api.RCall:
				i.N += functions
			case api.RJmp, api.RBz, api.RBnz:
				i.N += first
			}
			c.Ins = append(c.Ins, i)
		}
		c.Main = functions + x.Main
	}
	b := oracleWrite(c)
	holdForm(t, "drawn codes", c, b)
	for range 200 {
		at := d.Below(len(b) + 1)
		if _, place, err := code.Read(b[:at]); err != api.ErrCodeBytes && at < len(b) || place != at && at < len(b) {
			t.Fatalf("the first %d bytes: %d %v", at, place, err)
		}
	}
}
