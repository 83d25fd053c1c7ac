package emit_test

import (
	"fmt"
	"slices"
	"strings"

	"quern/api"
)

// The oracle puts a program's code together as a text, by the chapter's sentences. A jump stands with a * and its block's number, until all blocks' places are known.
type oracle struct {
	a     api.ALIR
	f     api.AFunc
	saved []int // registers, rising
	ins   []string
}

// oracleCode is the code of a program, as sample.TellCode tells it.
func oracleCode(a api.ALIR) string {
	var all strings.Builder
	first := 0
	for _, f := range a.Funcs {
		o := &oracle{a: a, f: f}
		o.function(first)
		params := ""
		if len(f.Params) > 0 {
			params = fmt.Sprint(len(f.Params))
		}
		fmt.Fprintf(&all, "%s(%s) frame %d\n%d: %s\n", f.Name, params, 2+len(o.saved)+f.Slots, first, strings.Join(o.ins, "; "))
		first += len(o.ins)
	}
	return all.String()
}

func (o *oracle) put(form string, all ...any) { o.ins = append(o.ins, fmt.Sprintf(form, all...)) }

func (o *oracle) function(first int) {
	for r := range 8 {
		for _, b := range o.f.Blocks {
			if slices.ContainsFunc(b.Body, func(x api.AIns) bool { return slices.Contains(x.Saves, r) }) && !slices.Contains(o.saved, r) {
				o.saved = append(o.saved, r)
			}
		}
	}
	var list []api.Move
	for i, p := range o.f.Params {
		list = append(list, api.Move{To: p, From: reg(i)})
	}
	o.moves(list)
	var places []string
	for i, b := range o.f.Blocks {
		places = append(places, fmt.Sprint(first+len(o.ins)))
		for _, x := range b.Body {
			o.instruction(x)
		}
		o.term(b.Term, i)
	}
	for i, x := range o.ins {
		if ahead, block, is := strings.Cut(x, "*"); is {
			var n int
			fmt.Sscan(block, &n)
			o.ins[i] = ahead + places[n]
		}
	}
}

func (o *oracle) word(slot api.Loc) int { return 2 + len(o.saved) + slot.N }

func (o *oracle) wordOf(register int) int { return 2 + slices.Index(o.saved, register) }

// forms are P2304's: D is the result's register, a b c the Args, I Imm.
var forms = map[int]string{
	api.InsConst: "ldi D I", api.InsAdd: "add D a b", api.InsSub: "sub D a b", api.InsMul: "mul D a b", api.InsDiv: "div D a b", api.InsRem: "rem D a b",
	api.InsAnd: "and D a b", api.InsOr: "or D a b", api.InsXor: "xor D a b", api.InsBic: "bic D a b", api.InsShl: "shl D a b", api.InsShr: "shr D a b",
	api.InsEq: "eq D a b", api.InsNe: "ne D a b", api.InsLt: "lt D a b", api.InsLe: "le D a b", api.InsNeg: "neg D a", api.InsInv: "inv D a", api.InsNot: "not D a",
	api.InsLen: "len D a", api.InsAlloc: "alloc D a", api.InsLoad: "ldx D a b", api.InsStore: "stx c a b", api.InsInput: "inp D",
	api.InsPrintInt: "outi a", api.InsPrintBool: "outb a", api.InsTrapZero: "trapz a I", api.InsTrapNeg: "trapn a I", api.InsTrapBound: "trapu a b I",
}

func (o *oracle) instruction(x api.AIns) {
	switch x.Op {
	case api.InsMove:
		o.move(x.Dst, x.Args[0])
		return
	case api.InsCall:
		o.call(x)
		return
	}
	says := map[string]string{"D": fmt.Sprint("r", x.Dst.N), "I": fmt.Sprint(x.Imm)}
	if x.Dst.Kind == api.LocSlot {
		says["D"] = "r8"
	}
	for i, p := range x.Args {
		letter := "abc"[i : i+1]
		says[letter] = fmt.Sprint("r", p.N)
		if p.Kind == api.LocSlot {
			says[letter] = fmt.Sprint("r", 8+i)
			o.put("lds r%d %d", 8+i, o.word(p))
		}
	}
	words := strings.Fields(forms[x.Op])
	for i, word := range words[1:] {
		words[1+i] = says[word]
	}
	o.put("%s", strings.Join(words, " "))
	if x.Dst.Kind == api.LocSlot {
		o.put("sts r8 %d", o.word(x.Dst))
	}
}

func (o *oracle) move(to, from api.Loc) {
	switch [2]int{to.Kind, from.Kind} {
	case [2]int{api.LocReg, api.LocReg}:
		if to.N != from.N {
			o.put("mov r%d r%d", to.N, from.N)
		}
	case [2]int{api.LocSlot, api.LocReg}:
		o.put("sts r%d %d", from.N, o.word(to))
	case [2]int{api.LocReg, api.LocSlot}:
		o.put("lds r%d %d", to.N, o.word(from))
	case [2]int{api.LocSlot, api.LocSlot}:
		if to.N != from.N {
			o.put("lds r8 %d", o.word(from))
			o.put("sts r8 %d", o.word(to))
		}
	}
}

// moves puts them as P1302 orders them.
func (o *oracle) moves(left []api.Move) {
	left = slices.DeleteFunc(slices.Clone(left), func(m api.Move) bool { return m.To == m.From })
	for len(left) > 0 {
		next := slices.IndexFunc(left, func(m api.Move) bool {
			return !slices.ContainsFunc(left, func(other api.Move) bool { return other.From == m.To })
		})
		if next >= 0 {
			o.move(left[next].To, left[next].From)
			left = slices.Delete(left, next, next+1)
		} else {
			o.move(reg(11), left[0].From)
			left[0].From = reg(11)
		}
	}
}

func (o *oracle) call(x api.AIns) {
	for r := range 8 {
		if slices.Contains(x.Saves, r) {
			o.put("sts r%d %d", r, o.wordOf(r))
		}
	}
	var list []api.Move
	for i, p := range x.Args {
		list = append(list, api.Move{To: reg(i), From: p})
	}
	o.moves(list)
	o.put("call %s", o.a.Funcs[x.Imm].Name)
	if x.Dst.Kind != 0 {
		o.put("mov r8 r0")
	}
	for r := range 8 {
		if slices.Contains(x.Saves, r) {
			o.put("lds r%d %d", r, o.wordOf(r))
		}
	}
	switch x.Dst.Kind {
	case api.LocReg:
		o.put("mov r%d r8", x.Dst.N)
	case api.LocSlot:
		o.put("sts r8 %d", o.word(x.Dst))
	}
}

func (o *oracle) term(t api.ATerm, at int) {
	value := t.Value.N
	if t.Value.Kind == api.LocSlot && t.Kind != api.TermReturn {
		o.put("lds r8 %d", o.word(t.Value))
		value = 8
	}
	switch t.Kind {
	case api.TermJump:
		if t.To[0] != at+1 {
			o.put("jmp *%d", t.To[0])
		}
	case api.TermBranch:
		if t.To[0] == at+1 {
			o.put("bz r%d *%d", value, t.To[1])
		} else if o.put("bnz r%d *%d", value, t.To[0]); t.To[1] != at+1 {
			o.put("jmp *%d", t.To[1])
		}
	case api.TermReturn:
		if t.Value.Kind != 0 {
			o.move(reg(0), t.Value)
		}
		o.put("ret")
	case api.TermPanic:
		o.put("trap r%d 6", value)
	}
}
