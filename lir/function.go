package lir

import (
	"slices"

	"quern/api"
	"quern/dom"
)

// function is a formed function in memory of its own. Its registers have numbers anew: so what is kept of them hangs on how many it names, not on how many it may have.
type function struct {
	params    []int
	registers int // how many it names
	blocks    []block
}

type block struct {
	body []api.LIns
	end  end
}

func functionOf(f api.LFunc) function {
	n := numbering{}
	made := function{params: n.all(f.Params)}
	for _, b := range f.Blocks {
		body := slices.Clone(b.Body)
		for i, x := range body {
			body[i].Args, body[i].Dst = n.all(x.Args), n.of(x.Dst)
		}
		b.Term.Value = n.of(b.Term.Value)
		made.blocks = append(made.blocks, block{body, endOf(b.Term)})
	}
	made.registers = len(n)
	return made
}

// numbering has for each register that was named a number, from 0 on.
type numbering map[int]int

func (n numbering) of(register int) int {
	if register == none {
		return none
	}
	number, known := n[register]
	if !known {
		number = len(n)
		n[register] = number
	}
	return number
}

func (n numbering) all(registers []int) []int {
	list := make([]int, len(registers))
	for i, r := range registers {
		list[i] = n.of(r)
	}
	return list
}

// to tells where each block leads.
func (f function) to() [][]int {
	to := make([][]int, len(f.blocks))
	for i, b := range f.blocks {
		to[i] = b.end.leads()
	}
	return to
}

// hasLostBlock tells whether there is a block to which no way leads.
func (f function) hasLostBlock() bool { return slices.Contains(dom.Reach(f.to()), false) }
