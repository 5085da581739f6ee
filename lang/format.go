package lang

import (
	"strconv"
	"strings"
)

// writer writes a program in one way.
type writer struct {
	text strings.Builder
	deep int // blocks that are open
}

// formatted is a program, written.
func formatted(p *program) string {
	w := &writer{}
	for _, part := range p.parts {
		part.format(w)
	}
	return w.text.String()
}

// add writes texts, one behind the other.
func (w *writer) add(texts ...string) {
	for _, t := range texts {
		w.text.WriteString(t)
	}
}

// end ends a line that is a whole statement.
func (w *writer) end() {
	w.add(";\n")
}

// block writes braces and what stands between them.
func (w *writer) block(b block) {
	w.add("{\n")
	w.deep++
	for _, s := range b {
		w.indent()
		s.format(w)
	}
	w.deep--
	w.indent()
	w.add("}")
}

// indent begins a line.
func (w *writer) indent() {
	w.add(strings.Repeat("\t", w.deep))
}

// within writes an expression where only one of this row, or of one that binds tighter, would be read as it is.
func (w *writer) within(e expression, row int) {
	if e.row() >= row {
		e.format(w)
		return
	}
	w.add("(")
	e.format(w)
	w.add(")")
}

func (g *global) format(w *writer) {
	w.add("var ", g.name.text)
	if g.array {
		w.add("[", strconv.Itoa(g.size.value), "]")
	}
	w.end()
}

func (f *function) format(w *writer) {
	w.add("fn ", f.name.text, "(")
	for i, p := range f.params {
		w.comma(i)
		w.add(p.text)
	}
	w.add(") ")
	w.block(f.body)
	w.add("\n")
}

// comma writes what stands ahead of the item with this number of a list.
func (w *writer) comma(i int) {
	if i > 0 {
		w.add(", ")
	}
}

func (d *declaration) format(w *writer) {
	w.add("var ", d.name.text, " = ")
	d.value.format(w)
	w.end()
}

func (a *assignment) format(w *writer) {
	w.add(a.name.text, " = ")
	a.value.format(w)
	w.end()
}

func (a *elementAssignment) format(w *writer) {
	a.element.format(w)
	w.add(" = ")
	a.value.format(w)
	w.end()
}

func (s *callStatement) format(w *writer) {
	s.call.format(w)
	w.end()
}

func (s *choice) format(w *writer) {
	s.chain(w)
	w.add("\n")
}

// chain writes an if with all that stands behind its else.
func (s *choice) chain(w *writer) {
	w.add("if ")
	s.condition.format(w)
	w.add(" ")
	w.block(s.then)
	switch {
	case s.otherwise != nil:
		w.add(" else ")
		s.otherwise.chain(w)
	case s.hasLast:
		w.add(" else ")
		w.block(s.last)
	}
}

func (l *loop) format(w *writer) {
	w.add("while ")
	l.condition.format(w)
	w.add(" ")
	w.block(l.body)
	w.add("\n")
}

func (s *blockStatement) format(w *writer) {
	w.block(s.body)
	w.add("\n")
}

func (l *leap) format(w *writer) {
	w.add(l.word.text)
	w.end()
}

func (g *giveBack) format(w *writer) {
	w.add("return")
	if g.value != nil {
		w.add(" ")
		g.value.format(w)
	}
	w.end()
}

func (o *output) format(w *writer) {
	w.add("out ")
	o.value.format(w)
	w.end()
}

func (p *printing) format(w *writer) {
	w.add("print ", p.text.text)
	w.end()
}

func (n *number) format(w *writer) {
	w.add(strconv.Itoa(n.token.value))
}

func (v *variable) format(w *writer) {
	w.add(v.name.text)
}

func (e *element) format(w *writer) {
	w.add(e.name.text, "[")
	e.index.format(w)
	w.add("]")
}

func (l *call) format(w *writer) {
	w.add(l.name.text, "(")
	for i, a := range l.arguments {
		w.comma(i)
		a.format(w)
	}
	w.add(")")
}

func (i *input) format(w *writer) {
	w.add(i.word.text, "()")
}

func (a *ahead) format(w *writer) {
	w.add(a.sign.text)
	w.within(a.of, rowTight)
}

func (b *between) format(w *writer) {
	w.within(b.left, b.operator.row)
	w.add(" ", b.operator.sign, " ")
	w.within(b.right, b.operator.row+1)
}
