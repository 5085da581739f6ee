package lang

import "arcade/api"

// The checks of the statements, each token by token as it is written.

func (d *declaration) check(c *checker) {
	c.look(d.name)
	d.value.check(c)
	// It is known behind its statement alone: its own value may speak of another one with this name.
	d.slot = c.local(d.name)
}

func (a *assignment) check(c *checker) {
	a.slot = c.variable(a.name)
	a.value.check(c)
}

func (a *elementAssignment) check(c *checker) {
	a.element.check(c)
	a.value.check(c)
}

func (s *callStatement) check(c *checker) {
	s.call.check(c)
}

func (s *choice) check(c *checker) {
	s.condition.check(c)
	c.block(s.then)
	if s.otherwise != nil {
		s.otherwise.check(c)
	}
	c.block(s.last)
}

func (l *loop) check(c *checker) {
	l.condition.check(c)
	c.loops++
	c.block(l.body)
	c.loops--
}

func (s *blockStatement) check(c *checker) {
	c.block(s.body)
}

func (l *leap) check(c *checker) {
	if c.loops == 0 {
		c.giveUp(api.ErrLangLoop, l.word.place)
	}
}

func (g *giveBack) check(c *checker) {
	if g.value != nil {
		g.value.check(c)
	}
}

func (o *output) check(c *checker) {
	o.value.check(c)
}

func (*printing) check(*checker) {}

// The checks of the expressions.

func (n *number) check(c *checker) {
	if n.token.value > mostNumber {
		c.giveUp(api.ErrLangNumber, n.token.place)
	}
}

func (v *variable) check(c *checker) {
	v.slot = c.variable(v.name)
}

func (e *element) check(c *checker) {
	e.array = c.array(e.name)
	e.index.check(c)
}

func (l *call) check(c *checker) {
	l.function = c.names[l.name.text].function
	if l.function == nil {
		c.giveUp(api.ErrLangName, l.name.place)
	}
	for _, a := range l.arguments {
		a.check(c)
	}
	if l.function != nil && len(l.arguments) != len(l.function.params) {
		c.giveUp(api.ErrLangArgs, l.name.place)
	}
}

func (*input) check(*checker) {}

func (a *ahead) check(c *checker) {
	a.of.check(c)
}

func (b *between) check(c *checker) {
	b.left.check(c)
	b.right.check(c)
}
