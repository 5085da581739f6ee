package lang

func (r *reader) expression() expression {
	return r.from(rowLoosest)
}

// from reads an expression with signs of this row, or of rows that bind tighter.
func (r *reader) from(row int) expression {
	left := r.operand()
	for {
		sign := r.now
		o, is := operatorOf(sign)
		if !is || o.row < row {
			return left
		}
		r.advance()
		left = &between{operator: o, sign: sign, left: left, right: r.from(o.row + 1)}
	}
}

// operand reads what stands alone, and the signs ahead of it.
func (r *reader) operand() expression {
	t := r.now
	switch {
	case t.is("-"), t.is("~"), t.is("!"):
		r.open()
		of := r.operand()
		r.deep--
		return &ahead{sign: t, of: of}
	case t.is("("):
		r.open()
		e := r.expression()
		r.expectClose(")")
		return e
	case r.take("in"), r.take("left"):
		r.expectOpen("(")
		r.expectClose(")")
		return &input{word: t}
	case t.kind == kindNumber:
		r.advance()
		return &number{token: t}
	}
	return r.namedOperand()
}

// namedOperand reads a variable, an element or a call.
func (r *reader) namedOperand() expression {
	name := r.expectKind(kindName)
	switch {
	case r.now.is("["):
		return r.element(name)
	case r.now.is("("):
		return r.call(name)
	}
	return &variable{name: name}
}

// element reads the index behind an array's name.
func (r *reader) element(name token) *element {
	r.expectOpen("[")
	index := r.expression()
	r.expectClose("]")
	return &element{name: name, index: index}
}

// call reads the arguments behind a function's name.
func (r *reader) call(name token) *call {
	c := &call{name: name}
	r.expectOpen("(")
	if !r.now.is(")") {
		c.arguments = append(c.arguments, r.expression())
		for r.take(",") {
			c.arguments = append(c.arguments, r.expression())
		}
	}
	r.expectClose(")")
	return c
}
