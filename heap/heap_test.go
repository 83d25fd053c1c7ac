package heap_test

import (
	"math"
	"testing"

	"quern/api"
	"quern/heap"
)

const (
	least = math.MinInt
	most  = math.MaxInt
)

func holdMake(t *testing.T, h *heap.Heap, n, address int, ok bool) {
	t.Helper()
	if a, is := h.Make(n); a != address || is != ok {
		t.Fatalf("Make(%d): %d %t, want %d %t", n, a, is, address, ok)
	}
}

func holdLen(t *testing.T, h *heap.Heap, address, n int, ok bool) {
	t.Helper()
	if l, is := h.Len(address); l != n || is != ok {
		t.Fatalf("Len(%d): %d %t, want %d %t", address, l, is, n, ok)
	}
}

func holdGet(t *testing.T, h *heap.Heap, address, i, value int, ok bool) {
	t.Helper()
	if v, is := h.Get(address, i); v != value || is != ok {
		t.Fatalf("Get(%d, %d): %d %t, want %d %t", address, i, v, is, value, ok)
	}
}

func holdSet(t *testing.T, h *heap.Heap, address, i, value int, ok bool) {
	t.Helper()
	if is := h.Set(address, i, value); is != ok {
		t.Fatalf("Set(%d, %d, %d): %t, want %t", address, i, value, is, ok)
	}
}

func holdWords(t *testing.T, h *heap.Heap, want int) {
	t.Helper()
	if n := h.Words(); n != want {
		t.Fatalf("Words(): %d, want %d", n, want)
	}
}

// three has the blocks 1 (3 words), 5 (none), 6 (2 words): the addresses 1 to 8.
func three(t *testing.T) *heap.Heap {
	t.Helper()
	h := heap.New()
	holdMake(t, h, 3, 1, true)
	holdMake(t, h, 0, 5, true)
	holdMake(t, h, 2, 6, true)
	holdWords(t, h, 8)
	return h
}

// holdWordsOfThree asks every word that a heap of three's blocks has.
func holdWordsOfThree(t *testing.T, h *heap.Heap, want [5]int) {
	t.Helper()
	for i := range 3 {
		holdGet(t, h, 1, i, want[i], true)
	}
	for i := range 2 {
		holdGet(t, h, 6, i, want[3+i], true)
	}
}

func TestP601New(t *testing.T) {
	h := heap.New()
	holdWords(t, h, 0)
	holdLen(t, h, 0, 0, true)
	for _, address := range []int{1, 2, -1, least, most, api.MaxWords} {
		holdLen(t, h, address, 0, false)
		holdGet(t, h, address, 0, 0, false)
		holdSet(t, h, address, 0, 7, false)
	}
	holdWords(t, h, 0)
	holdMake(t, h, 1, 1, true)
	holdGet(t, h, 1, 0, 0, true)
}

func TestP602BlocksFollowOneAnother(t *testing.T) {
	h := heap.New()
	next := 1
	for _, n := range []int{0, 0, 1, 0, 5, 2, 1 << 31, 1 << 32, 0, 3, 1 << 40, 1, 0} {
		holdMake(t, h, n, next, true)
		holdLen(t, h, next, n, true)
		for _, i := range []int{0, n / 2, n - 1} {
			holdGet(t, h, next, i, 0, 0 <= i && i < n)
		}
		next += n + 1
		holdWords(t, h, next-1)
	}
}

func TestP602NewWordsAreZero(t *testing.T) {
	h := heap.New()
	for block := range 50 {
		address := 1 + block*4
		holdMake(t, h, 3, address, true)
		for i := range 3 {
			holdGet(t, h, address, i, 0, true)
			holdSet(t, h, address, i, 100*block+i+1, true)
		}
		for i := 3; i < 10; i++ { // where the blocks behind it will have their words
			holdSet(t, h, address, i, -1, false)
		}
	}
}

func TestP602BelowZero(t *testing.T) {
	h := heap.New()
	for _, n := range []int{-1, -2, -3, -1 << 31, -1 << 32, -api.MaxWords, -api.MaxWords - 1, -api.MaxWords - 2, least + 1, least} {
		holdMake(t, h, n, 0, false)
		holdWords(t, h, 0)
	}
	holdMake(t, h, 2, 1, true)
	for _, n := range []int{-1, -3, -4, -api.MaxWords, least + 3, least} {
		holdMake(t, h, n, 0, false)
		holdWords(t, h, 3)
	}
	holdMake(t, h, 0, 4, true)
}

// TestP602LastAddress goes with a heap of every small number of addresses to the end and one beyond it.
func TestP602LastAddress(t *testing.T) {
	for taken := range 20 {
		h := heap.New()
		if taken > 0 {
			holdMake(t, h, taken-1, 1, true)
		}
		fits := api.MaxWords - taken - 1
		for _, n := range []int{fits + 1, fits + 2, fits + taken + 1, fits + taken + 2, 1 << 62, 1<<62 + 1, most - taken - 1, most - taken, most - 1, most} {
			holdMake(t, h, n, 0, false)
			holdWords(t, h, taken)
			holdLen(t, h, taken+1, 0, false)
		}
		holdMake(t, h, fits, taken+1, true)
		holdWords(t, h, api.MaxWords)
		holdLen(t, h, taken+1, fits, true)
		for _, n := range []int{0, 1, fits, api.MaxWords, most, -1, least} {
			holdMake(t, h, n, 0, false)
			holdWords(t, h, api.MaxWords)
		}
		holdLen(t, h, api.MaxWords, 0, false)
		holdLen(t, h, api.MaxWords+1, 0, false)
	}
}

func TestP602LastAddressIsABlockOfNoWords(t *testing.T) {
	h := heap.New()
	holdMake(t, h, api.MaxWords-2, 1, true)
	holdWords(t, h, api.MaxWords-1)
	holdMake(t, h, 1, 0, false)
	holdWords(t, h, api.MaxWords-1)
	holdMake(t, h, 0, api.MaxWords, true)
	holdWords(t, h, api.MaxWords)
	holdLen(t, h, api.MaxWords, 0, true)
	holdGet(t, h, api.MaxWords, 0, 0, false)
	holdSet(t, h, api.MaxWords, 0, 7, false)
	holdMake(t, h, 0, 0, false)
	holdLen(t, h, api.MaxWords+1, 0, false)
}

func TestP603Len(t *testing.T) {
	h := three(t)
	for i, value := range []int{3, 5, 9} { // a word's value is no block's length, whatever it is
		holdSet(t, h, 1, i, value, true)
	}
	own := map[int]int{0: 0, 1: 3, 5: 0, 6: 2}
	for address := -20; address <= 20; address++ {
		n, ok := own[address]
		holdLen(t, h, address, n, ok)
		holdWords(t, h, 8)
	}
	for _, address := range []int{1 << 32, 1<<32 + 1, 1<<32 + 6, api.MaxWords, api.MaxWords + 1, most - 1, most, -1 << 32, least, least + 1, least + 6} {
		holdLen(t, h, address, 0, false)
		holdWords(t, h, 8)
	}
	holdMake(t, h, 4, 9, true)
	holdLen(t, h, 9, 4, true)
	holdLen(t, h, 10, 0, false)
	holdLen(t, h, 6, 2, true)
}

func TestP604SetAndGet(t *testing.T) {
	h := three(t)
	holdWordsOfThree(t, h, [5]int{})
	want := [5]int{}
	for _, value := range []int{7, 7, -1, 0, 0, 1, least, most, 1 << 32, 0, 5} {
		for w := range 5 {
			address, i := 1, w
			if w >= 3 {
				address, i = 6, w-3
			}
			want[w] = value
			holdSet(t, h, address, i, value, true)
			holdWordsOfThree(t, h, want)
			holdWords(t, h, 8)
		}
	}
}

func TestP604EveryWordIsItsOwn(t *testing.T) {
	h := heap.New()
	var blocks [][2]int
	for k := range 80 {
		n := k * 37 % 80
		address, _ := h.Make(n)
		blocks = append(blocks, [2]int{address, n})
	}
	for _, b := range blocks {
		for i := range b[1] {
			holdSet(t, h, b[0], i, b[0]*1000+i, true)
		}
	}
	for _, b := range blocks {
		holdLen(t, h, b[0], b[1], true)
		for i := range b[1] {
			holdGet(t, h, b[0], i, b[0]*1000+i, true)
		}
	}
}

// wrongPlaces are an address and a place which, of three's blocks, are no word's; added up, many of them are.
func wrongPlaces() [][2]int {
	var list [][2]int
	numbers := []int{least, least + 1, least + 2, -1 << 32, most, most - 1, most - 5, most - 6, 1 << 32, 1<<32 + 1, api.MaxWords, api.MaxWords - 1, -api.MaxWords}
	for n := -12; n <= 12; n++ {
		numbers = append(numbers, n)
	}
	for _, address := range numbers {
		for _, i := range numbers {
			if address == 1 && 0 <= i && i < 3 || address == 6 && 0 <= i && i < 2 {
				continue
			}
			list = append(list, [2]int{address, i})
		}
	}
	return list
}

func TestP604WrongPlaces(t *testing.T) {
	h := three(t)
	want := [5]int{11, 12, 0, 21, 0}
	holdSet(t, h, 1, 0, 11, true)
	holdSet(t, h, 1, 1, 12, true)
	holdSet(t, h, 6, 0, 21, true)
	for _, p := range wrongPlaces() {
		for _, value := range []int{99, 0} {
			holdSet(t, h, p[0], p[1], value, false)
			holdGet(t, h, p[0], p[1], 0, false)
		}
		holdWordsOfThree(t, h, want)
		holdLen(t, h, 1, 3, true)
		holdLen(t, h, 5, 0, true)
		holdLen(t, h, 6, 2, true)
		holdLen(t, h, 9, 0, false)
		holdWords(t, h, 8)
	}
	holdMake(t, h, 12, 9, true)
	for i := range 12 { // what was refused stands nowhere, now that a block has these addresses
		holdGet(t, h, 9, i, 0, true)
	}
}

func TestP604AddressZero(t *testing.T) {
	h := three(t)
	holdSet(t, h, 1, 0, 7, true)
	for _, i := range []int{-1, 0, 1, 2, 3, most, least} {
		holdSet(t, h, 0, i, 8, false)
		holdGet(t, h, 0, i, 0, false)
		holdLen(t, h, 0, 0, true)
	}
	holdWordsOfThree(t, h, [5]int{7})
}

func TestP605Words(t *testing.T) {
	h := heap.New()
	want := 0
	for n := range 100 {
		if n%3 == 0 {
			h.Make(-n - 1)
			h.Make(api.MaxWords - want)
			holdWords(t, h, want)
		}
		holdMake(t, h, n, want+1, true)
		want += n + 1
		holdWords(t, h, want)
		h.Set(want-n, n-1, n)
		h.Set(want-n, n, n)
		h.Get(want-n, 0)
		h.Len(want - n)
		holdWords(t, h, want)
	}
	holdMake(t, h, api.MaxWords-want-1, want+1, true)
	holdWords(t, h, api.MaxWords)
}

func TestP606TwoHeaps(t *testing.T) {
	a, b := heap.New(), heap.New()
	holdMake(t, a, 3, 1, true)
	holdWords(t, b, 0)
	holdLen(t, b, 1, 0, false)
	holdGet(t, b, 1, 0, 0, false)
	holdMake(t, b, 4, 1, true)
	for round := range 20 {
		for i := range 3 {
			holdSet(t, a, 1, i, 10*round+i, true)
			holdSet(t, b, 1, i, -10*round-i, true)
			holdGet(t, a, 1, i, 10*round+i, true)
			holdGet(t, b, 1, i, -10*round-i, true)
		}
		holdSet(t, a, 1, 3, 1, false)
		holdSet(t, b, 1, 3, 1, true)
		holdMake(t, a, 0, 5+round, true)
		holdMake(t, b, 1, 6+2*round, true)
		holdWords(t, a, 5+round)
		holdWords(t, b, 7+2*round)
	}
	holdMake(t, a, api.MaxWords-25, 25, true)
	holdMake(t, a, 0, 0, false)
	holdMake(t, b, 0, 46, true)
	c := heap.New()
	holdWords(t, c, 0)
	holdMake(t, c, 2, 1, true)
	holdGet(t, c, 1, 0, 0, true)
}

func TestP606TheLongestBlock(t *testing.T) {
	h := heap.New()
	const n = api.MaxWords - 1
	holdMake(t, h, n, 1, true)
	holdWords(t, h, api.MaxWords)
	holdLen(t, h, 1, n, true)
	places := []int{0, 1, 1 << 20, 1 << 31, 1 << 32, 1<<32 + 1, 1 << 61, n - 2, n - 1}
	for k, i := range places {
		holdGet(t, h, 1, i, 0, true)
		holdSet(t, h, 1, i, 1000+k, true)
	}
	for k, i := range places {
		holdGet(t, h, 1, i, 1000+k, true)
	}
	for _, i := range []int{2, 1<<32 - 1, n / 2, n - 3} {
		holdGet(t, h, 1, i, 0, true)
	}
	for _, i := range []int{n, n + 1, n + 2, most - 1, most, -1, -2, least} {
		holdSet(t, h, 1, i, 5, false)
		holdGet(t, h, 1, i, 0, false)
	}
}

func TestP606ManyLongBlocks(t *testing.T) {
	h := heap.New()
	const many, step = 1 << 10, 1 << 52
	for k := range many {
		holdMake(t, h, step-1, 1+k*step, true)
		holdSet(t, h, 1+k*step, step-2, k+1, true)
	}
	holdWords(t, h, api.MaxWords)
	holdMake(t, h, 0, 0, false)
	for k := range many {
		holdLen(t, h, 1+k*step, step-1, true)
		holdGet(t, h, 1+k*step, step-2, k+1, true)
		holdGet(t, h, 1+k*step, 0, 0, true)
	}
}

func TestP606WhatIsNotSetTakesNoMemory(t *testing.T) {
	h := heap.New()
	holdMake(t, h, api.MaxWords-1, 1, true)
	next := 0
	each := testing.AllocsPerRun(100, func() {
		for range 1000 {
			h.Get(1, next)
			h.Get(next, 0)
			h.Set(next+2, 0, 1)
			h.Len(next)
			h.Make(next)
			next++
		}
	})
	if each > 1 {
		t.Errorf("memory was taken %v times by 5000 calls that set nothing", each)
	}
}

func TestExamples(t *testing.T) {
	h := heap.New()
	holdMake(t, h, 3, 1, true)
	holdMake(t, h, 0, 5, true)
	holdMake(t, h, -1, 0, false)
	holdMake(t, h, 2, 6, true)
	holdWords(t, h, 8)

	holdLen(t, h, 1, 3, true)
	holdLen(t, h, 5, 0, true)
	holdLen(t, h, 6, 2, true)
	holdLen(t, h, 0, 0, true)
	holdLen(t, h, 2, 0, false)
	holdLen(t, h, 9, 0, false)
	holdWords(t, h, 8)

	holdSet(t, h, 1, 2, 7, true)
	holdSet(t, h, 1, 3, 7, false)
	holdSet(t, h, 0, 0, 7, false)
	holdSet(t, h, 6, 0, -1, true)
	holdWords(t, h, 8)

	holdGet(t, h, 1, 2, 7, true)
	holdGet(t, h, 1, 0, 0, true)
	holdGet(t, h, 5, 0, 0, false)
	holdGet(t, h, 6, 0, -1, true)
	holdGet(t, h, 6, -1, 0, false)
	holdWords(t, h, 8)

	holdMake(t, h, 1<<62-9, 9, true)
	holdMake(t, h, 0, 0, false)
	holdWords(t, h, 1<<62)

	holdSet(t, h, 9, 1<<62-10, 4, true)
	holdGet(t, h, 9, 1<<62-10, 4, true)
	holdLen(t, h, 9, 1<<62-9, true)
	holdWords(t, h, 1<<62)
}
