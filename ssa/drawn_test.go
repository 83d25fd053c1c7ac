package ssa_test

import (
	"slices"
	"testing"

	"quern/api"
	"quern/sample"
	"quern/ssa"
)

// setPreds sets Preds as the Terms want them.
func setPreds(f *api.SFunc) {
	for b := range f.Blocks {
		f.Blocks[b].Preds = nil
	}
	for b, block := range f.Blocks {
		for _, to := range block.Term.To {
			if inside(to, len(f.Blocks)) {
				f.Blocks[to].Preds = append(f.Blocks[to].Preds, b)
			}
		}
	}
}

// turnList does one thing to a list of numbers.
func turnList(d *sample.Dice, list *[]int, below int) {
	l := slices.Clone(*list)
	n := d.Below(below+2) - 1
	switch {
	case len(l) == 0 || d.Below(5) == 0:
		l = slices.Insert(l, d.Below(len(l)+1), n)
	case d.Below(3) == 0:
		at := d.Below(len(l))
		l = slices.Delete(l, at, at+1)
	case d.Below(2) == 0:
		i, j := d.Below(len(l)), d.Below(len(l))
		l[i], l[j] = l[j], l[i]
	default:
		l[d.Below(len(l))] = n
	}
	*list = l
}

// turnOne turns one thing in a program.
func turnOne(d *sample.Dice, s *api.SSA) {
	f := &s.Funcs[d.Below(len(s.Funcs))]
	if len(f.Blocks) == 0 || len(f.Values) == 0 {
		return
	}
	v, b := &f.Values[d.Below(len(f.Values))], &f.Blocks[d.Below(len(f.Blocks))]
	other := &f.Blocks[d.Below(len(f.Blocks))]
	switch d.Below(22) {
	case 0:
		f.Name = []string{"a", "b", "", "int", "a-b"}[d.Below(5)]
	case 1:
		s.Main = d.Below(len(s.Funcs)+2) - 1
	case 2:
		f.Result = d.Below(6) - 1
	case 3:
		turnList(d, &f.Params, len(f.Values))
	case 4:
		v.Op = d.Below(36) - 1
	case 5, 6:
		v.Type = d.Below(4)
	case 7:
		v.Imm = d.Below(8) - 1
	case 8, 9, 10:
		if len(v.Args) > 0 {
			v.Args = slices.Clone(v.Args)
			v.Args[d.Below(len(v.Args))] = d.Below(len(f.Values))
		}
	case 11:
		turnList(d, &v.Args, len(f.Values))
	case 12:
		turnList(d, &b.Phis, len(f.Values))
	case 13:
		turnList(d, &b.Body, len(f.Values))
	case 14, 15: // within a Body, or to another one
		if len(b.Body) > 0 {
			at := d.Below(len(b.Body))
			n := b.Body[at]
			b.Body = slices.Delete(slices.Clone(b.Body), at, at+1)
			other.Body = slices.Insert(slices.Clone(other.Body), d.Below(len(other.Body)+1), n)
		}
	case 16:
		turnList(d, &b.Preds, len(f.Blocks))
	case 17:
		b.Term.Kind = d.Below(6)
	case 18:
		b.Term.Value = d.Below(len(f.Values)+3) - 2
	case 19:
		turnList(d, &b.Term.To, len(f.Blocks))
	case 20, 21: // a way to another block, and Preds that tell it
		if len(b.Term.To) > 0 {
			b.Term.To = slices.Clone(b.Term.To)
			b.Term.To[d.Below(len(b.Term.To))] = d.Below(len(f.Blocks))
			setPreds(f)
		}
	}
}

func TestDrawnAgainstOracle(t *testing.T) {
	d := sample.Dice(20261116)
	often := map[api.Errno]int{}
	for range 40000 {
		s := sample.DrawSSA(&d)
		turns := d.Below(4)
		for range turns {
			turnOne(&d, &s)
		}
		is, e := ssa.Check(s), oracle(s)
		if is != e || turns == 0 && is != api.OK {
			t.Fatalf("%+v: %v, want %v (%d turns)", s, is, e, turns)
		}
		often[e]++
	}
	for _, e := range []api.Errno{api.OK, api.ErrSSAForm, api.ErrSSAPreds, api.ErrSSAReach, api.ErrSSAPhi, api.ErrSSATwice, api.ErrSSAType, api.ErrSSAUse} {
		if often[e] < 100 {
			t.Errorf("only %d programs with %v", often[e], e)
		}
	}
	t.Log(often)
}
