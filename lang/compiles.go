package lang

import "strings"

// The code of the statements.

func (d *declaration) compile(g *generator) {
	d.value.compile(g)
	g.set(d.slot)
}

func (a *assignment) compile(g *generator) {
	a.value.compile(g)
	g.set(a.slot)
}

func (a *elementAssignment) compile(g *generator) {
	a.element.index.compile(g)
	g.push()
	a.value.compile(g)
	g.pop()
	g.push()
	g.element(a.element)
	g.pop()
	g.routine("keep")
}

func (s *callStatement) compile(g *generator) {
	s.call.compile(g)
}

func (s *choice) compile(g *generator) {
	otherwise, behind := &label{}, &label{}
	s.condition.compile(g)
	g.routine("test")
	g.leap(jumpZero, otherwise)
	g.block(s.then)
	if s.otherwise != nil || len(s.last) > 0 {
		g.leap(jump, behind)
	}
	g.here(otherwise)
	if s.otherwise != nil {
		s.otherwise.compile(g)
	}
	g.block(s.last)
	g.here(behind)
}

func (l *loop) compile(g *generator) {
	e := ends{again: &label{}, behind: &label{}}
	g.here(e.again)
	l.condition.compile(g)
	g.routine("test")
	g.leap(jumpZero, e.behind)
	g.loops = append(g.loops, e)
	g.block(l.body)
	g.loops = g.loops[:len(g.loops)-1]
	g.leap(jump, e.again)
	g.here(e.behind)
}

func (s *blockStatement) compile(g *generator) {
	g.block(s.body)
}

func (l *leap) compile(g *generator) {
	e := g.loops[len(g.loops)-1]
	if l.word.is("continue") {
		g.leap(jump, e.again)
		return
	}
	g.leap(jump, e.behind)
}

func (b *giveBack) compile(g *generator) {
	if b.value == nil {
		g.addWord(loadHL, 0)
	} else {
		b.value.compile(g)
	}
	g.leap(jump, g.exit)
}

func (o *output) compile(g *generator) {
	o.value.compile(g)
	g.at(o.word, "output")
}

func (p *printing) compile(g *generator) {
	text := p.bytes()
	g.addWord(loadDE, len(text))
	g.at(p.word, "print")
	g.add([]byte(text)...)
}

// bytes is what stands between the quotes.
func (p *printing) bytes() string {
	return strings.Trim(p.text.text, `"`)
}

// The code of the expressions: each leaves its value in hl, and the stack as it was.

func (n *number) compile(g *generator) {
	g.addWord(loadHL, n.token.value)
}

func (v *variable) compile(g *generator) {
	g.address(v.slot)
	g.routine("fetch")
}

func (e *element) compile(g *generator) {
	e.index.compile(g)
	g.push()
	g.pop()
	g.element(e)
	g.routine("fetch")
}

func (l *call) compile(g *generator) {
	for _, a := range l.arguments {
		a.compile(g)
		g.push()
	}
	g.addWord(loadBC, l.name.place)
	g.leap(callTo, g.entries[l.function.number])
	g.move(-len(l.arguments))
	g.pushed -= len(l.arguments)
}

func (i *input) compile(g *generator) {
	if i.word.is("left") {
		g.routine("left")
		return
	}
	g.routine("input")
}

func (a *ahead) compile(g *generator) {
	a.of.compile(g)
	switch a.sign.text {
	case "-":
		g.routine("negate")
	case "~":
		g.routine("turn")
	default:
		g.routine("not")
	}
}

func (b *between) compile(g *generator) {
	b.left.compile(g)
	switch b.operator.sign {
	case "&&":
		b.shortened(g, jumpZero)
		return
	case "||":
		b.shortened(g, jumpOther)
		return
	}
	g.push()
	b.right.compile(g)
	g.pop()
	if b.operator.divides() {
		g.at(b.sign, b.operator.routine)
		return
	}
	g.routine(b.operator.routine)
}

// shortened leaves out the right side by a jump, if the left one tells all.
func (b *between) shortened(g *generator, enough byte) {
	known := &label{}
	g.routine("test")
	g.leap(enough, known)
	b.right.compile(g)
	g.routine("test")
	g.here(known)
	g.routine("truth")
}
