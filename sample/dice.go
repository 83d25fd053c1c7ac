// Package sample has programs for the tests of the layers: read from texts, drawn, or with one thing turned.
package sample

import (
	"math"

	"quern/api"
)

// Dice: numbers that look drawn, the same ones each time.
type Dice uint64

// Below draws a number from 0 on, below n.
func (d *Dice) Below(n int) int {
	*d ^= *d << 13
	*d ^= *d >> 7
	*d ^= *d << 17
	return int(uint64(*d) >> 11 % uint64(n))
}

// OneOf draws one of the numbers.
func (d *Dice) OneOf(list ...int) int { return list[d.Below(len(list))] }

// Number draws mostly a small one.
func (d *Dice) Number() int {
	if d.Below(12) == 0 {
		return d.OneOf(math.MinInt, math.MinInt+1, math.MaxInt, -1, 63, 64, 1<<32, api.MaxWords, api.MaxWords-1, api.MaxWords-5)
	}
	return d.Below(8) - 1
}

// Input draws a short input.
func (d *Dice) Input() []int {
	var list []int
	for range d.Below(12) {
		list = append(list, d.Number())
	}
	return list
}

// shuffled are the numbers below n in an order that is drawn.
func shuffled(d *Dice, n int) []int {
	list := make([]int, n)
	for i := range list {
		j := d.Below(i + 1)
		list[i] = list[j]
		list[j] = i
	}
	return list
}
