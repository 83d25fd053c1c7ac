package ssa_test

import (
	"slices"
	"strings"

	"quern/api"
)

// The oracle asks the chapter's sentences one by one, each by itself, with no thought of time.

// oracleRows: P901's table: the Args' types by letters (i an int, b a bool, l a []int), the Type, and what the Imm may be.
var oracleRows = map[int]struct{ args, gives, imm string }{
	api.InsConst: {"", "?", "any"},
	api.InsAdd:   {"ii", "i", "0"}, api.InsSub: {"ii", "i", "0"}, api.InsMul: {"ii", "i", "0"}, api.InsDiv: {"ii", "i", "0"},
	api.InsRem: {"ii", "i", "0"}, api.InsAnd: {"ii", "i", "0"}, api.InsOr: {"ii", "i", "0"}, api.InsXor: {"ii", "i", "0"},
	api.InsBic: {"ii", "i", "0"}, api.InsShl: {"ii", "i", "0"}, api.InsShr: {"ii", "i", "0"},
	api.InsEq: {"==", "b", "0"}, api.InsNe: {"==", "b", "0"},
	api.InsLt: {"ii", "b", "0"}, api.InsLe: {"ii", "b", "0"},
	api.InsNeg: {"i", "i", "0"}, api.InsInv: {"i", "i", "0"}, api.InsNot: {"b", "b", "0"},
	api.InsLen: {"l", "i", "0"}, api.InsLoad: {"li", "i", "0"}, api.InsStore: {"lii", "-", "0"},
	api.InsAlloc: {"i", "l", "0"}, api.InsInput: {"", "i", "0"},
	api.InsCall:     {"call", "call", "call"},
	api.InsPrintInt: {"i", "-", "0"}, api.InsPrintBool: {"b", "-", "0"},
	api.InsTrapZero: {"i", "-", "trap"}, api.InsTrapNeg: {"i", "-", "trap"}, api.InsTrapBound: {"ii", "-", "trap"},
	api.InsPhi: {"phi", "?", "0"}, api.InsParam: {"", "?", "any"},
}

const oracleTypes = "-ibl"

func oracle(s api.SSA) api.Errno {
	if !oracleForm(s) {
		return api.ErrSSAForm
	}
	for _, f := range s.Funcs {
		asked := []struct {
			e     api.Errno
			holds func() bool
		}{
			{api.ErrSSAPreds, func() bool { return oraclePreds(f) }},
			{api.ErrSSAReach, func() bool { return oracleReach(f) }},
			{api.ErrSSAPhi, func() bool { return oraclePhi(f) }},
			{api.ErrSSATwice, func() bool { return oracleTwice(f) }},
			{api.ErrSSAType, func() bool { return oracleType(s, f) }},
			{api.ErrSSAUse, func() bool { return oracleUse(f) }},
		}
		for _, x := range asked {
			if !x.holds() {
				return x.e
			}
		}
	}
	return api.OK
}

func oracleName(name string) bool {
	words := " func var if else for return break continue print panic input len make int bool true false nil "
	if name == "" || len(name) > 64 || strings.Contains(words, " "+name+" ") {
		return false
	}
	for i, r := range name {
		letter := r == '_' || 'a' <= r && r <= 'z' || 'A' <= r && r <= 'Z'
		if !letter && (i == 0 || r < '0' || r > '9') {
			return false
		}
	}
	return true
}

func inside(n, length int) bool { return 0 <= n && n < length }

func oracleForm(s api.SSA) bool {
	for i, f := range s.Funcs {
		if !oracleName(f.Name) {
			return false
		}
		for _, g := range s.Funcs[:i] {
			if g.Name == f.Name {
				return false
			}
		}
		if len(f.Params) > 8 || len(f.Values) > 1<<18-1 || len(f.Blocks) < 1 || !inside(f.Result, 4) {
			return false
		}
		for _, v := range f.Values {
			if !oracleValueForm(s, f, v) {
				return false
			}
		}
		for i, n := range f.Params {
			if !inside(n, len(f.Values)) || f.Values[n].Op != api.InsParam || f.Values[n].Imm != i {
				return false
			}
		}
		for _, b := range f.Blocks {
			if !oracleBlockForm(f, b) {
				return false
			}
		}
	}
	return inside(s.Main, len(s.Funcs)) && len(s.Funcs[s.Main].Params)+s.Funcs[s.Main].Result == 0
}

func oracleValueForm(s api.SSA, f api.SFunc, v api.Value) bool {
	row, is := oracleRows[v.Op]
	if !is || !inside(v.Type, 4) {
		return false
	}
	count := len(row.args)
	switch row.imm {
	case "0":
		is = v.Imm == 0
	case "trap":
		is = v.Imm >= 1 && v.Imm <= 5
	case "call":
		if !inside(v.Imm, len(s.Funcs)) {
			return false
		}
		count = len(s.Funcs[v.Imm].Params)
	}
	for _, n := range v.Args {
		is = is && inside(n, len(f.Values))
	}
	return is && (v.Op == api.InsPhi || len(v.Args) == count)
}

func oracleBlockForm(f api.SFunc, b api.Block) bool {
	for _, n := range slices.Concat(b.Phis, b.Body) {
		if !inside(n, len(f.Values)) || f.Values[n].Op == api.InsParam {
			return false
		}
	}
	for _, n := range slices.Concat(b.Preds, b.Term.To) {
		if !inside(n, len(f.Blocks)) {
			return false
		}
	}
	if b.Term.Value != -1 && !inside(b.Term.Value, len(f.Values)) {
		return false
	}
	none := b.Term.Value == -1
	switch b.Term.Kind {
	case api.TermJump:
		return len(b.Term.To) == 1 && none
	case api.TermBranch:
		return len(b.Term.To) == 2 && !none
	case api.TermReturn:
		return len(b.Term.To) == 0 && none == (f.Result == api.TypeNone)
	}
	return b.Term.Kind == api.TermPanic && len(b.Term.To) == 0 && !none
}

func oraclePreds(f api.SFunc) bool {
	for b, block := range f.Blocks {
		if b == 0 && len(block.Preds) > 0 || !slices.IsSorted(block.Preds) {
			return false
		}
		for from := range f.Blocks {
			told, is := 0, 0
			for _, n := range block.Preds {
				if n == from {
					told++
				}
			}
			for _, n := range f.Blocks[from].Term.To {
				if n == b {
					is++
				}
			}
			if told != is {
				return false
			}
		}
	}
	return true
}

// reachedWithout tells which blocks can be come to on ways that leave one out. (-1: none is left out.)
func reachedWithout(f api.SFunc, out int) []bool {
	met := make([]bool, len(f.Blocks))
	met[0] = out != 0
	for range f.Blocks {
		for b, block := range f.Blocks {
			for _, n := range block.Term.To {
				met[n] = met[n] || met[b] && n != out
			}
		}
	}
	return met
}

func dominates(f api.SFunc, a, b int) bool { return !reachedWithout(f, a)[b] }

func oracleReach(f api.SFunc) bool { return !slices.Contains(reachedWithout(f, -1), false) }

func oraclePhi(f api.SFunc) bool {
	for b, block := range f.Blocks {
		for _, n := range block.Phis {
			if b == 0 || f.Values[n].Op != api.InsPhi || len(f.Values[n].Args) != len(block.Preds) {
				return false
			}
		}
		for _, n := range block.Body {
			if f.Values[n].Op == api.InsPhi {
				return false
			}
		}
	}
	return true
}

func oracleTwice(f api.SFunc) bool {
	all := slices.Clone(f.Params)
	for _, block := range f.Blocks {
		all = slices.Concat(all, block.Phis, block.Body)
	}
	slices.Sort(all)
	for i, n := range all {
		if n != i {
			return false
		}
	}
	return len(all) == len(f.Values)
}

func oracleType(s api.SSA, f api.SFunc) bool {
	letter := func(n int) byte { return oracleTypes[f.Values[n].Type] }
	for _, v := range f.Values {
		row := oracleRows[v.Op]
		args, gives := row.args, row.gives
		switch {
		case v.Op == api.InsConst && (v.Type == api.TypeBool && v.Imm != 0 && v.Imm != 1 || v.Type == api.TypeInts && v.Imm != 0):
			return false
		case args == "==":
			args = strings.Repeat(string(letter(v.Args[0])), 2)
		case args == "phi":
			args = strings.Repeat(string(oracleTypes[v.Type]), len(v.Args))
		case args == "call":
			g := s.Funcs[v.Imm]
			args, gives = "", string(oracleTypes[g.Result])
			for _, p := range g.Params {
				args += string(oracleTypes[g.Values[p].Type])
			}
		}
		if gives == "?" && v.Type == api.TypeNone || gives != "?" && gives[0] != oracleTypes[v.Type] {
			return false
		}
		for i, n := range v.Args {
			if args[i] == '-' || letter(n) != args[i] {
				return false
			}
		}
	}
	for _, block := range f.Blocks {
		wanted := map[int]byte{api.TermBranch: 'b', api.TermPanic: 'i', api.TermReturn: oracleTypes[f.Result]}[block.Term.Kind]
		if block.Term.Value != -1 && letter(block.Term.Value) != wanted {
			return false
		}
	}
	return true
}

func oracleUse(f api.SFunc) bool {
	thereAtEnd := func(v, b int) bool {
		if f.Values[v].Op == api.InsParam {
			return true
		}
		for a, block := range f.Blocks {
			if (slices.Contains(block.Phis, v) || slices.Contains(block.Body, v)) && dominates(f, a, b) {
				return true
			}
		}
		return false
	}
	for b, block := range f.Blocks {
		if block.Term.Value != -1 && !thereAtEnd(block.Term.Value, b) {
			return false
		}
		for _, n := range block.Phis {
			for i, arg := range f.Values[n].Args {
				if !thereAtEnd(arg, block.Preds[i]) {
					return false
				}
			}
		}
		for at, n := range block.Body {
			for _, arg := range f.Values[n].Args {
				if slices.Contains(block.Body[at:], arg) || !thereAtEnd(arg, b) {
					return false
				}
			}
		}
	}
	return true
}
