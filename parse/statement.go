package parse

import "quern/api"

func (p *parser) program() {
	if !p.atEnd() {
		p.put(p.function, p.program)
	}
}

func (p *parser) function() {
	at := p.take(api.TokFunc).At
	name := p.take(api.TokName)
	f := p.begin(api.Node{Kind: api.NodeFunc, At: at, Where: name.At, Name: name.Name})
	p.most = 0
	p.params()
	if p.kind != api.TokBegin {
		f.node.Decl = p.typeName()
	}
	p.put(p.block, f.endFunction)
}

// endFunction comes right behind the block's closing brace.
func (f *part) endFunction() {
	f.node.Close = f.tokens[f.next-1].At
	f.nests = append(f.nests, f.most)
	f.done()
}

func (p *parser) params() {
	p.take(api.TokOpen)
	if p.has(api.TokClose) {
		return
	}
	p.param()
	for p.has(api.TokComma) {
		p.param()
	}
	p.take(api.TokClose)
}

func (p *parser) param() {
	name := p.take(api.TokName)
	b := p.begin(api.Node{Kind: api.NodeParam, At: name.At, Where: name.At, Name: name.Name})
	b.node.Decl = p.typeName()
	b.done()
}

func (p *parser) typeName() int {
	switch {
	case p.has(api.TokInt):
		return api.TypeInt
	case p.has(api.TokBool):
		return api.TypeBool
	}
	p.listType()
	return api.TypeInts
}

func (p *parser) listType() {
	p.take(api.TokAt)
	p.take(api.TokShut)
	p.take(api.TokInt)
}

func (p *parser) block() {
	b := p.begin(api.Node{Kind: api.NodeBlock, At: p.enterBy(api.TokBegin).At})
	p.put(b.statements)
}

func (b *part) statements() {
	if b.kind != api.TokEnd {
		b.put(b.statement, b.statements)
		return
	}
	b.leaveBy(api.TokEnd)
	b.done()
}

func (p *parser) statement() {
	switch p.kind {
	case api.TokVar:
		p.variable()
	case api.TokName:
		p.named()
	case api.TokPrint:
		p.told(api.NodePrint)
	case api.TokPanic:
		p.told(api.NodePanic)
	case api.TokIf:
		p.condition()
	case api.TokFor:
		p.loop()
	case api.TokReturn:
		p.result()
	case api.TokBreak:
		p.word(api.NodeBreak).endStatement()
	case api.TokContinue:
		p.word(api.NodeContinue).endStatement()
	case api.TokBegin:
		p.block()
	default:
		p.fail()
	}
}

// word takes the word that begins a statement.
func (p *parser) word(kind int) *part {
	return p.begin(api.Node{Kind: kind, At: p.take(p.kind).At})
}

func (b *part) endStatement() {
	b.take(api.TokSemi)
	b.done()
}

func (p *parser) variable() {
	v := p.word(api.NodeVar)
	name := p.take(api.TokName)
	v.node.Where, v.node.Name = name.At, name.Name
	v.node.Decl = p.typeName()
	p.put(v.endStatement)
	if p.has(api.TokSet) {
		p.put(p.expression)
	}
}

// named reads a statement that begins with a name: what stands behind it tells which one.
func (p *parser) named() {
	name := p.take(api.TokName)
	s := p.begin(api.Node{At: name.At, Where: name.At, Name: name.Name})
	switch p.kind {
	case api.TokSet:
		s.node.Kind = api.NodeSet
		s.assigned()
	case api.TokAt:
		s.node.Kind = api.NodeSetAt
		p.put(p.inBrackets, s.assigned)
	case api.TokOpen:
		s.node.Kind = api.NodeCall
		p.put(s.arguments, p.begin(api.Node{Kind: api.NodeCallStmt, At: name.At}).endStatement)
	default:
		p.fail()
	}
}

func (s *part) assigned() {
	s.take(api.TokSet)
	s.put(s.expression, s.endStatement)
}

func (p *parser) told(kind int) {
	s := p.word(kind)
	p.put(p.inParentheses, s.endStatement)
}

func (p *parser) condition() {
	s := p.word(api.NodeIf)
	p.put(p.expression, p.block, s.otherwise)
}

func (s *part) otherwise() {
	switch {
	case !s.has(api.TokElse):
		s.done()
	case s.kind == api.TokIf:
		s.enter()
		s.put(s.condition, s.leave, s.done)
	default:
		s.put(s.block, s.done)
	}
}

func (p *parser) loop() {
	s := p.word(api.NodeFor)
	p.put(p.block, s.done)
	if p.kind != api.TokBegin {
		p.put(p.expression)
	}
}

func (p *parser) result() {
	s := p.word(api.NodeReturn)
	p.put(s.endStatement)
	if p.kind != api.TokSemi {
		p.put(p.expression)
	}
}
