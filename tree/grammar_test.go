package tree_test

import (
	"errors"

	"quern/api"
	"quern/lex"
)

// reader reads a text by DOC.md's grammar, rule by rule.
type reader struct {
	tokens []api.Token
	next   int
}

var errGrammar = errors.New("no text of the grammar")

// parsed is the tree of a text of the rule program.
func parsed(text string) (t api.Tree, err error) {
	tokens, _, fault := lex.Tokens([]byte(text))
	if fault != api.OK {
		return t, fault
	}
	defer func() {
		if r := recover(); r != nil {
			if r != errGrammar {
				panic(r)
			}
			err = errGrammar
		}
	}()
	r := &reader{tokens: tokens}
	var functions []*shape
	for r.next < len(r.tokens) {
		functions = append(functions, r.function())
	}
	return flat(functions...), nil
}

func (r *reader) kind() int {
	if r.next >= len(r.tokens) {
		return 0
	}
	return r.tokens[r.next].Kind
}

func (r *reader) take(kind int) api.Token {
	if r.kind() != kind {
		panic(errGrammar)
	}
	r.next++
	return r.tokens[r.next-1]
}

func (r *reader) takeAll(kinds ...int) {
	for _, kind := range kinds {
		r.take(kind)
	}
}

func (r *reader) maybe(kind int) bool {
	if r.kind() != kind {
		return false
	}
	r.next++
	return true
}

func (r *reader) typ() int {
	switch {
	case r.maybe(api.TokInt):
		return api.TypeInt
	case r.maybe(api.TokBool):
		return api.TypeBool
	}
	r.takeAll(api.TokAt, api.TokShut, api.TokInt)
	return api.TypeInts
}

func (r *reader) function() *shape {
	r.take(api.TokFunc)
	f := function(r.take(api.TokName).Name)
	r.take(api.TokOpen)
	for r.kind() != api.TokClose {
		if len(f.kids) > 0 {
			r.take(api.TokComma)
		}
		s := r.take(api.TokName).Name
		f.kids = append(f.kids, param(s, r.typ()))
	}
	r.take(api.TokClose)
	if r.kind() != api.TokBegin {
		f.decl(r.typ())
	}
	f.kids = append(f.kids, r.block())
	return f
}

func (r *reader) block() *shape {
	b := block()
	r.take(api.TokBegin)
	for !r.maybe(api.TokEnd) {
		b.kids = append(b.kids, r.statement())
	}
	return b
}

func (r *reader) statement() *shape {
	switch kind := r.kind(); kind {
	case api.TokIf:
		return r.condition()
	case api.TokFor:
		r.next++
		s := of(api.NodeFor)
		if r.kind() != api.TokBegin {
			s.kids = append(s.kids, r.expression(1))
		}
		s.kids = append(s.kids, r.block())
		return s
	case api.TokBegin:
		return r.block()
	}
	s := r.simple()
	r.take(api.TokSemi)
	return s
}

func (r *reader) condition() *shape {
	r.take(api.TokIf)
	s := of(api.NodeIf, r.expression(1))
	s.kids = append(s.kids, r.block())
	if r.maybe(api.TokElse) {
		if r.kind() == api.TokIf {
			s.kids = append(s.kids, r.condition())
		} else {
			s.kids = append(s.kids, r.block())
		}
	}
	return s
}

// simple is a statement that ends in a semicolon, up to that.
func (r *reader) simple() *shape {
	switch {
	case r.maybe(api.TokVar):
		s := variable(r.take(api.TokName).Name, api.TypeNone)
		s.decl(r.typ())
		if r.maybe(api.TokSet) {
			s.kids = append(s.kids, r.expression(1))
		}
		return s
	case r.maybe(api.TokPrint):
		return of(api.NodePrint, r.inParentheses())
	case r.maybe(api.TokPanic):
		return of(api.NodePanic, r.inParentheses())
	case r.maybe(api.TokReturn):
		if r.kind() == api.TokSemi {
			return of(api.NodeReturn)
		}
		return of(api.NodeReturn, r.expression(1))
	case r.maybe(api.TokBreak):
		return of(api.NodeBreak)
	case r.maybe(api.TokContinue):
		return of(api.NodeContinue)
	}
	s := r.take(api.TokName).Name
	switch {
	case r.maybe(api.TokSet):
		return set(s, r.expression(1))
	case r.maybe(api.TokAt):
		i := r.expression(1)
		r.takeAll(api.TokShut, api.TokSet)
		return setAt(s, i, r.expression(1))
	}
	return of(api.NodeCallStmt, call(s, r.arguments()...))
}

func (r *reader) inParentheses() *shape {
	r.take(api.TokOpen)
	v := r.expression(1)
	r.take(api.TokClose)
	return v
}

func (r *reader) arguments() []*shape {
	var l []*shape
	r.take(api.TokOpen)
	for r.kind() != api.TokClose {
		if len(l) > 0 {
			r.take(api.TokComma)
		}
		l = append(l, r.expression(1))
	}
	r.take(api.TokClose)
	return l
}

// signsOf are the signs of the rules expr, and, cmp, sum, prod, in this order.
var signsOf = []map[int]int{
	1: {api.TokEither: api.OpEither},
	2: {api.TokBoth: api.OpBoth},
	3: {api.TokEq: api.OpEq, api.TokNe: api.OpNe, api.TokLt: api.OpLt, api.TokLe: api.OpLe, api.TokGt: api.OpGt, api.TokGe: api.OpGe},
	4: {api.TokAdd: api.OpAdd, api.TokSub: api.OpSub, api.TokOr: api.OpOr, api.TokXor: api.OpXor},
	5: {api.TokMul: api.OpMul, api.TokDiv: api.OpDiv, api.TokRem: api.OpRem, api.TokShl: api.OpShl, api.TokShr: api.OpShr, api.TokAnd: api.OpAnd, api.TokBic: api.OpBic},
}

// expression reads one of the rules expr (1), and, cmp, sum, prod (5).
func (r *reader) expression(rule int) *shape {
	if rule == 6 {
		return r.unary()
	}
	left := r.expression(rule + 1)
	for {
		op, ok := signsOf[rule][r.kind()]
		if !ok {
			return left
		}
		r.next++
		left = binary(op, left, r.expression(rule+1))
		if rule == 3 {
			return left
		}
	}
}

func (r *reader) unary() *shape {
	switch {
	case r.maybe(api.TokSub):
		return unary(api.OpNeg, r.unary())
	case r.maybe(api.TokNot):
		return unary(api.OpNot, r.unary())
	case r.maybe(api.TokXor):
		return unary(api.OpInv, r.unary())
	}
	v := r.primary()
	for r.maybe(api.TokAt) {
		v = index(v, r.expression(1))
		r.take(api.TokShut)
	}
	return v
}

func (r *reader) primary() *shape {
	switch kind := r.kind(); kind {
	case api.TokNumber:
		return num(r.take(kind).Value)
	case api.TokTrue, api.TokFalse, api.TokNil:
		r.next++
		return of(api.NodeTrue + kind - api.TokTrue)
	case api.TokInput:
		r.takeAll(api.TokInput, api.TokOpen, api.TokClose)
		return of(api.NodeInput)
	case api.TokLen:
		r.next++
		return of(api.NodeLen, r.inParentheses())
	case api.TokMake:
		r.takeAll(api.TokMake, api.TokOpen, api.TokAt, api.TokShut, api.TokInt, api.TokComma)
		s := of(api.NodeMake, r.expression(1))
		r.take(api.TokClose)
		return s
	case api.TokOpen:
		return r.inParentheses()
	}
	s := r.take(api.TokName).Name
	if r.kind() == api.TokOpen {
		return call(s, r.arguments()...)
	}
	return name(s)
}
