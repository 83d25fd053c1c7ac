package code_test

import (
	"encoding/binary"
	"math"
	"slices"
	"testing"

	"quern/api"
	"quern/code"
	"quern/r16"
	"quern/sample"
)

// stopIfFailed ends a test that goes over very many inputs: one that fails tells enough.
func stopIfFailed(t *testing.T) {
	t.Helper()
	if t.Failed() {
		t.FailNow()
	}
}

// TestP2204Drawn: of drawn code Write answers the oracle's bytes, and Read of them the code.
func TestP2204Drawn(t *testing.T) {
	d := sample.Dice(2204)
	for range 20000 {
		c := sample.DrawCode(&d)
		holdForm(t, "drawn", c, oracleWrite(c))
		stopIfFailed(t)
	}
}

// TestP2203Drawn turns the bytes of drawn code: fields, bytes, pieces of them.
func TestP2203Drawn(t *testing.T) {
	d := sample.Dice(2203)
	often := map[string]int{}
	for i := range 100000 {
		b := oracleWrite(sample.DrawCode(&d))
		for range 1 + i%3 {
			b = turnBytes(&d, b)
		}
		often[holdOracle(t, b).what]++
		stopIfFailed(t)
	}
	for _, what := range []string{"", "end", "more", "mark", "functions", "Main", "length", "name", "Frame", "Count", "Params", "Op", "register", "N"} {
		if often[what] < 100 {
			t.Errorf("only %d times: %s", often[what], what)
		}
	}
	t.Log(often)
}

// turnBytes turns one thing.
func turnBytes(d *sample.Dice, b []byte) []byte {
	at := d.Below(len(b) + 1)
	to := min(at+d.Below(12), len(b))
	switch d.Below(12) {
	case 0:
		return b[:at]
	case 1:
		return slices.Insert(b, at, byte(d.Below(256)))
	case 2:
		return slices.Delete(b, at, to)
	case 3:
		return slices.Insert(b, at, slices.Clone(b[at:to])...)
	case 4:
		return append(b, b[at:to]...)
	case 5, 6:
		if at < len(b) {
			b[at] = byte(d.OneOf(0, 1, 2, 3, 21, 27, 35, 38, 39, int(b[at])+1, int(b[at])-1, d.Below(256)))
		}
		return b
	}
	return turnField(d, b)
}

// turnField puts a number into a field: one that is near, or an edge of some field.
func turnField(d *sample.Dice, b []byte) []byte {
	fields := fieldsOf(b)
	if len(fields) == 0 {
		return b
	}
	s := fields[d.Below(len(fields))]
	old := int(binary.LittleEndian.Uint64(append(slices.Clone(b[s.from:s.to]), make([]byte, 64)...)))
	n := d.OneOf(old, old+1, old-1, 0, 1, 2, 3, 5, 6, 7, 8, 9, 15, 16, 64, 65, 'a', 'b', 255, 1<<16, math.MaxUint32, api.MaxStack, api.MaxStack+1, math.MinInt, math.MaxInt, -1)
	return withNumber(b, s, uint64(n))
}

// TestP2203Garbage: bytes of all kinds, and all there are of few of them.
func TestP2203Garbage(t *testing.T) {
	d := sample.Dice(3)
	head := inHex(exampleBytes)
	for range 100000 {
		b := slices.Clone(head[:d.Below(len(head))])
		for range d.Below(60) {
			b = append(b, byte(d.OneOf(0, 1, 2, 4, 7, 27, 97, 255, d.Below(256))))
		}
		holdOracle(t, b)
		stopIfFailed(t)
	}
	for a := range 256 {
		holdOracle(t, []byte{byte(a)})
		for b := range 256 {
			holdOracle(t, []byte{byte(a), byte(b)})
			stopIfFailed(t)
		}
	}
}

// TestP2202Drawn turns drawn code: Write refuses just what r16.Check refuses, and of all else Read gives it back.
func TestP2202Drawn(t *testing.T) {
	d := sample.Dice(2202)
	often := map[api.Errno]int{}
	for range 100000 {
		c := sample.DrawCode(&d)
		turnCode(&d, &c)
		why := r16.Check(c)
		often[why]++
		if why == api.OK {
			holdForm(t, "turned", c, oracleWrite(c))
		} else {
			holdRefused(t, "turned", c)
		}
		stopIfFailed(t)
	}
	if often[api.OK] < 5000 || often[api.ErrCodeForm] < 5000 {
		t.Errorf("too few: %v", often)
	}
}

func turnCode(d *sample.Dice, c *api.Code) {
	f, x := &c.Funcs[d.Below(len(c.Funcs))], &c.Ins[d.Below(len(c.Ins))]
	fields := []*int{&c.Main, &f.Frame, &f.First, &f.Count, &f.Params, &x.Op, &x.A, &x.B, &x.C, &x.N, &x.N}
	field := fields[d.Below(len(fields))]
	*field = d.OneOf(*field+1, *field-1, *field+256, *field+1<<32, *field-256, *field-1<<32, 0, 1, 2, 5, 15, 16, api.MaxStack, math.MinInt, math.MaxInt)
	if d.Below(10) == 0 {
		f.Name = []string{"", "a", "b", "xyz", "for", "1"}[d.Below(6)]
	}
}

// TestP2204Taken: what Read takes is code, and has no other bytes: of one code with a byte turned, and with two turned.
func TestP2204Taken(t *testing.T) {
	b := inHex(exampleBytes)
	taken := 0
	take := func() {
		if c, _, err := code.Read(b); err == api.OK {
			taken++
			if is := write(t, c); !slices.Equal(is, b) {
				t.Fatalf("% x is read, and written % x", b, is)
			}
		}
	}
	for at := range b {
		for other := range at {
			one, two := b[at], b[other]
			for n := range 256 {
				b[at], b[other] = byte(n), byte(n*7+other)
				take()
			}
			b[at], b[other] = one, two
		}
	}
	if taken < 1000 {
		t.Errorf("only %d are taken", taken)
	}
}
