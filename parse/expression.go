package parse

import "quern/api"

// The levels of signs between two values: the higher one binds its values tighter.
const (
	levelNone = iota
	levelEither
	levelBoth
	levelCompare
	levelSum
	levelProduct
)

func (p *parser) expression() { p.joined(levelNone) }

// joined reads a value, and what it is joined with by signs above a level.
func (p *parser) joined(above int) {
	c := &chain{parser: p, above: above, upTo: levelProduct}
	p.put(p.unary, c.join)
}

// chain is a value to which more may be joined: by signs above one level, up to another.
type chain struct {
	*parser
	above, upTo int
}

func (c *chain) join() {
	level := levelOf(c.kind)
	if level <= c.above || level > c.upTo {
		return
	}
	c.upTo = level
	if level == levelCompare { // comparisons don't chain
		c.upTo = level - 1
	}
	op := opOf(c.kind)
	b := c.beginBehind(api.Node{Kind: api.NodeBinary, Where: c.take(c.kind).At, Op: op})
	c.put(b.done, c.join)
	c.joined(level)
}

func levelOf(kind int) int {
	switch kind {
	case api.TokEither:
		return levelEither
	case api.TokBoth:
		return levelBoth
	case api.TokEq, api.TokNe, api.TokLt, api.TokLe, api.TokGt, api.TokGe:
		return levelCompare
	case api.TokAdd, api.TokSub, api.TokOr, api.TokXor:
		return levelSum
	case api.TokMul, api.TokDiv, api.TokRem, api.TokShl, api.TokShr, api.TokAnd, api.TokBic:
		return levelProduct
	}
	return levelNone
}

// opOf is the operator of a sign between two values. In api the kinds of signs go as the operators do, but that those that compare stand first.
func opOf(kind int) int {
	switch {
	case kind <= api.TokGe:
		return api.OpEq + kind - api.TokEq
	case kind <= api.TokShr:
		return api.OpAdd + kind - api.TokAdd
	}
	return api.OpBoth + kind - api.TokBoth
}

func (p *parser) unary() {
	switch p.kind {
	case api.TokSub:
		p.signed(api.OpNeg)
	case api.TokNot:
		p.signed(api.OpNot)
	case api.TokXor:
		p.signed(api.OpInv)
	default:
		p.put(p.primary, p.indices)
	}
}

func (p *parser) signed(op int) {
	u := p.begin(api.Node{Kind: api.NodeUnary, At: p.take(p.kind).At, Op: op})
	p.enter()
	p.put(p.unary, p.leave, u.done)
}

func (p *parser) indices() {
	if p.kind == api.TokAt {
		x := p.beginBehind(api.Node{Kind: api.NodeIndex})
		p.put(p.inBrackets, x.done, p.indices)
	}
}

func (p *parser) primary() {
	switch p.kind {
	case api.TokNumber:
		p.number()
	case api.TokTrue:
		p.word(api.NodeTrue).done()
	case api.TokFalse:
		p.word(api.NodeFalse).done()
	case api.TokNil:
		p.word(api.NodeNil).done()
	case api.TokName:
		p.nameOrCall()
	case api.TokInput:
		p.input()
	case api.TokLen:
		p.put(p.inParentheses, p.word(api.NodeLen).done)
	case api.TokMake:
		p.made()
	default:
		p.inParentheses()
	}
}

func (p *parser) number() {
	token := p.take(api.TokNumber)
	p.begin(api.Node{Kind: api.NodeNum, At: token.At, Value: token.Value}).done()
}

func (p *parser) nameOrCall() {
	name := p.take(api.TokName)
	n := p.begin(api.Node{Kind: api.NodeName, At: name.At, Where: name.At, Name: name.Name})
	if p.kind != api.TokOpen {
		n.done()
		return
	}
	n.node.Kind = api.NodeCall
	n.arguments()
}

func (b *part) arguments() {
	b.enterBy(api.TokOpen)
	if b.kind == api.TokClose {
		b.endArguments()
		return
	}
	b.put(b.expression, b.endArguments)
}

func (b *part) endArguments() {
	if b.has(api.TokComma) {
		b.put(b.expression, b.endArguments)
		return
	}
	b.endParentheses()
	b.done()
}

func (p *parser) input() {
	n := p.word(api.NodeInput)
	p.enterBy(api.TokOpen)
	p.endParentheses()
	n.done()
}

func (p *parser) made() {
	n := p.word(api.NodeMake)
	p.enterBy(api.TokOpen)
	p.listType()
	p.take(api.TokComma)
	p.put(p.expression, p.endParentheses, n.done)
}

func (p *parser) inParentheses() {
	p.enterBy(api.TokOpen)
	p.put(p.expression, p.endParentheses)
}

func (p *parser) endParentheses() { p.leaveBy(api.TokClose) }

func (p *parser) inBrackets() {
	p.enterBy(api.TokAt)
	p.put(p.expression, p.endBrackets)
}

func (p *parser) endBrackets() { p.leaveBy(api.TokShut) }
