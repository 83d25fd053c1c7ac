package sample

import (
	"strconv"

	"quern/api"
)

// Machine is a run of whatever level.
type Machine interface {
	Step() bool
	Run(fuel int) (api.Outcome, api.Errno)
	Outcome() api.Outcome
}

// Hold runs what start begins at once, step by step, and in two pieces at every place. It tells what was otherwise than wanted, or nothing.
func Hold(start func() Machine, want string) string {
	o, err := start().Run(100000)
	if err != api.OK || Told(o) != want {
		return "at once: " + Told(o) + ", " + err.Error() + ", want " + want
	}
	single := start()
	for steps := range o.Steps {
		if x := single.Outcome(); x.End != api.Running || x.Steps != steps || !single.Step() {
			return "at the step " + strconv.Itoa(steps) + ": " + Told(x)
		}
	}
	if single.Step() || Told(single.Outcome()) != want {
		return "step by step: " + Told(single.Outcome()) + ", want " + want
	}
	for first := range o.Steps + 2 {
		m := start()
		m.Run(first)
		if p, _ := m.Run(max(0, o.Steps-first)); Told(p) != want {
			return strconv.Itoa(first) + " steps and the others: " + Told(p) + ", want " + want
		}
	}
	return ""
}

// HoldEnd runs to the end and asks for more. It tells what was otherwise than wanted, or nothing.
func HoldEnd(m Machine, want string) string {
	m.Run(100000)
	for range 3 {
		if m.Step() {
			return "a step behind the end"
		}
		for _, fuel := range []int{0, 1, 100, api.MaxFuel} {
			if o, err := m.Run(fuel); err != api.OK || Told(o) != want {
				return strconv.Itoa(fuel) + " more steps: " + Told(o) + ", " + err.Error() + ", want " + want
			}
		}
		if is := Told(m.Outcome()); is != want {
			return "behind the end: " + is + ", want " + want
		}
	}
	return ""
}

// Drive makes up to so many steps: at once, one by one, or in pieces.
func (d *Dice) Drive(m Machine, fuel int) {
	switch d.Below(3) {
	case 0:
		m.Run(fuel)
	case 1:
		for range fuel {
			m.Step()
		}
	case 2:
		for fuel > 0 {
			piece := d.Below(min(fuel, 40) + 1)
			m.Run(piece)
			fuel -= piece
		}
	}
}
