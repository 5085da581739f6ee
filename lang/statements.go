package lang

func (r *reader) block() block {
	var b block
	r.expectOpen("{")
	for !r.now.is("}") && r.now.kind != kindEnd {
		b = append(b, r.statement())
	}
	r.expectClose("}")
	return b
}

func (r *reader) statement() statement {
	word := r.now
	switch {
	case word.kind == kindName:
		return r.named()
	case word.is("{"):
		return &blockStatement{body: r.block()}
	case r.take("var"):
		return r.declaration()
	case r.take("if"):
		return r.choice()
	case r.take("while"):
		return &loop{condition: r.expression(), body: r.block()}
	case r.take("break"), r.take("continue"):
		r.expect(";")
		return &leap{word: word}
	case r.take("return"):
		return r.giveBack()
	case r.take("out"):
		return &output{word: word, value: r.lastExpression()}
	case r.take("print"):
		text := r.expectKind(kindText)
		r.expect(";")
		return &printing{word: word, text: text}
	}
	r.refuse()
	return nil
}

// lastExpression reads an expression, and the end of its statement.
func (r *reader) lastExpression() expression {
	e := r.expression()
	r.expect(";")
	return e
}

// named reads a statement that begins with a name.
func (r *reader) named() statement {
	name := r.expectKind(kindName)
	switch {
	case r.now.is("("):
		c := r.call(name)
		r.expect(";")
		return &callStatement{call: c}
	case r.now.is("["):
		e := r.element(name)
		r.expect("=")
		return &elementAssignment{element: e, value: r.lastExpression()}
	}
	r.expect("=")
	return &assignment{name: name, value: r.lastExpression()}
}

func (r *reader) declaration() statement {
	name := r.expectKind(kindName)
	r.expect("=")
	return &declaration{name: name, value: r.lastExpression()}
}

// choice reads what stands behind the word if.
func (r *reader) choice() *choice {
	c := &choice{condition: r.expression(), then: r.block()}
	if !r.take("else") {
		return c
	}
	if r.take("if") {
		c.otherwise = r.choice()
		return c
	}
	c.hasLast = true
	c.last = r.block()
	return c
}

func (r *reader) giveBack() statement {
	if r.take(";") {
		return &giveBack{}
	}
	return &giveBack{value: r.lastExpression()}
}
