package code_test

import (
	"bytes"
	"slices"
	"sync"
	"testing"

	"quern/api"
	"quern/code"
	"quern/sample"
)

// codes are some that Write takes, and some that it does not.
func codes() []api.Code {
	list := []api.Code{sample.Code(exampleText), sample.Code(asked), {}}
	for _, turn := range []func(c *api.Code){
		func(c *api.Code) { c.Main = 7 },
		func(c *api.Code) { c.Funcs[0].Name = "for" },
		func(c *api.Code) { c.Funcs[2].Name = "f" },
		func(c *api.Code) { c.Funcs[1].Frame = 1 },
		func(c *api.Code) { c.Ins[14].Op = 99 },
	} {
		c := sample.Code(asked)
		turn(&c)
		list = append(list, c)
	}
	d := sample.Dice(2205)
	for range 200 {
		list = append(list, sample.DrawCode(&d))
	}
	return list
}

// spaced are the bytes in new memory with more behind them.
func spaced(b []byte, behind string) []byte { return append(slices.Clone(b), behind...)[:len(b)] }

func TestP2205WriteChangesNothing(t *testing.T) {
	for _, c := range codes() {
		c = sample.SpacedCode(c)
		before := sample.ShapeCode(c)
		code.Write(c)
		if sample.ShapeCode(c) != before {
			t.Fatalf("what was handed in has changed: %+v", c)
		}
	}
}

// TestP2205ReadChangesNothing: what stands in the spare room is no part of the bytes, also where they would go on there.
func TestP2205ReadChangesNothing(t *testing.T) {
	for _, text := range []string{exampleText, asked} {
		all := write(t, sample.Code(text))
		for n := range len(all) + 1 {
			b := spaced(all[:n], string(all[n:])+"more")
			before := slices.Clone(b[:cap(b)])
			if _, at, _ := code.Read(b); at != n && n < len(all) {
				t.Errorf("the first %d bytes: %d", n, at)
			}
			if n < len(all) {
				turned := turnedField(all, fieldsOf(all)[n%9])
				b := spaced(turned[:n], string(turned[n:]))
				before := slices.Clone(b[:cap(b)])
				code.Read(b)
				if !bytes.Equal(before, b[:cap(b)]) {
					t.Fatalf("what was handed in has changed:\n% x\n% x", before, b[:cap(b)])
				}
			}
			if !bytes.Equal(before, b[:cap(b)]) {
				t.Fatalf("what was handed in has changed:\n% x\n% x", before, b[:cap(b)])
			}
		}
	}
}

// TestP2205NotKept: what is handed in is written over, and what was answered stays.
func TestP2205NotKept(t *testing.T) {
	for _, c := range codes() {
		given := sample.SpacedCode(c)
		b, err := code.Write(given)
		if err != api.OK {
			continue
		}
		want := oracleWrite(c)
		sample.SpoilCode(given)
		if !bytes.Equal(b, want) {
			t.Fatalf("the code was written over: % x, want % x", b, want)
		}
		bytesGiven := spaced(b, "more")
		read, _, err := code.Read(bytesGiven)
		cover(bytesGiven)
		if err != api.OK || !same(read, c) {
			t.Fatalf("the bytes were written over: %+v, want %+v", read, c)
		}
	}
}

// cover writes over all bytes, spare room included.
func cover(b []byte) {
	b = b[:cap(b)]
	for i := range b {
		b[i] = 0xEE
	}
}

// TestP2205AnswersAreNewMemory: answers that are written over, spare room included, leave other answers and what was handed in.
func TestP2205AnswersAreNewMemory(t *testing.T) {
	for _, c := range codes() {
		given := sample.SpacedCode(c)
		before := sample.ShapeCode(given)
		one, err := code.Write(given)
		if err != api.OK {
			continue
		}
		two := write(t, given)
		want := slices.Clone(two)
		first, _, _ := code.Read(two)
		second, _, _ := code.Read(two)
		cover(one)
		sample.SpoilCode(first)
		if !bytes.Equal(two, want) || !same(second, c) || sample.ShapeCode(given) != before {
			t.Fatalf("an answer that was written over is to be seen, of %+v", c)
		}
		third, at, err := code.Read(two)
		if err != api.OK || at != 0 || !same(third, c) || !bytes.Equal(write(t, given), want) {
			t.Fatalf("an answer that was written over is to be seen later, of %+v", c)
		}
	}
}

// TestP2205Again: what a call answers hangs on nothing that was asked ahead of it, nor on what else goes on.
func TestP2205Again(t *testing.T) {
	wrong := []byte("qr16 and no more")
	c := sample.Code(asked)
	b := oracleWrite(c)
	var all sync.WaitGroup
	failed := make([]int, 16)
	for i := range failed {
		all.Go(func() {
			for range 200 {
				read, at, err := code.Read(b)
				written, whyNot := code.Write(c)
				_, place, why := code.Read(wrong)
				if err != api.OK || at != 0 || !same(read, c) || whyNot != api.OK || !bytes.Equal(written, b) || place != 12 || why != api.ErrCodeBytes {
					failed[i]++
				}
			}
		})
	}
	all.Wait()
	if slices.Max(failed) > 0 {
		t.Errorf("%v answers differ", failed)
	}
}
