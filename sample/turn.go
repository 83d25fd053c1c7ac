package sample

import "quern/api"

// Loop is the program of chapter 9's examples.
const Loop = `main()
	0: v0 const 0; jump 1
	1: v1 phi.int v0 v6; v2 const 3; v3 lt v1 v2; branch v3 2 3
	2: v4 print v1; v5 const 1; v6 add v1 v5; jump 1
	3: return`

// Wrong is a program that ssa.Check refuses.
type Wrong struct {
	Program api.SSA
	Why     api.Errno
}

// Wrongs are programs that ssa.Check refuses, one for each of its errors.
func Wrongs() []Wrong {
	turned := func(why api.Errno, turn func(f *api.SFunc)) Wrong {
		s := SSA(Loop)
		turn(&s.Funcs[0])
		return Wrong{s, why}
	}
	return []Wrong{
		turned(api.ErrSSAForm, func(f *api.SFunc) { f.Name = "for" }),
		turned(api.ErrSSAPreds, func(f *api.SFunc) { f.Blocks[1].Preds = []int{2, 0} }),
		turned(api.ErrSSAReach, func(f *api.SFunc) {
			f.Blocks = append(f.Blocks, api.Block{Preds: []int{4}, Term: api.Term{Kind: api.TermJump, Value: -1, To: []int{4}}})
		}),
		turned(api.ErrSSAPhi, func(f *api.SFunc) { f.Values[1].Args = []int{0} }),
		turned(api.ErrSSATwice, func(f *api.SFunc) { f.Blocks[3].Body = []int{5} }),
		turned(api.ErrSSAType, func(f *api.SFunc) { f.Values[3].Type = api.TypeInt }),
		turned(api.ErrSSAUse, func(f *api.SFunc) { f.Blocks[2].Body = []int{6, 4, 5} }),
	}
}
