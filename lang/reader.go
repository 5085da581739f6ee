package lang

import "arcade/api"

// reader reads a source. The first thing that is wrong ends the source for it: from then on no token comes any more, and what it reads counts no more.
type reader struct {
	scanner
	now   token // the one that is looked at
	deep  int   // how many blocks, brackets and signs ahead are open
	wrong error
}

// read reads a program.
func read(source string) (*program, error) {
	if len(source) > api.MaxLang {
		return nil, fault{api.ErrLangLong, 0}
	}
	r := &reader{scanner: scanner{source: source}}
	r.advance()
	p := &program{length: len(source)}
	for r.now.kind != kindEnd {
		r.part(p)
	}
	return p, r.wrong
}

// advance goes on to the next token.
func (r *reader) advance() {
	if r.wrong != nil {
		return
	}
	t, err := r.next()
	if err != nil {
		r.giveUp(err)
		return
	}
	r.now = t
}

// giveUp keeps the first thing that is wrong.
func (r *reader) giveUp(err error) {
	if r.wrong == nil {
		r.wrong = err
	}
	r.now = token{}
}

// refuse says that the token that is looked at cannot stand there.
func (r *reader) refuse() {
	r.giveUp(fault{api.ErrLangText, r.now.place})
}

// take goes on behind a keyword or a sign, if it is looked at.
func (r *reader) take(fixed string) bool {
	if !r.now.is(fixed) {
		return false
	}
	r.advance()
	return true
}

func (r *reader) expect(fixed string) {
	if !r.take(fixed) {
		r.refuse()
	}
}

// expectKind tells a token of this kind, which must be there.
func (r *reader) expectKind(k kind) token {
	t := r.now
	if t.kind != k {
		r.refuse()
		return token{}
	}
	r.advance()
	return t
}

// open opens what the token that is looked at opens.
func (r *reader) open() {
	if r.deep == api.MaxLangDeep {
		r.giveUp(fault{api.ErrLangDeep, r.now.place})
		return
	}
	r.deep++
	r.advance()
}

// expectOpen opens a brace or a bracket, which must be there.
func (r *reader) expectOpen(sign string) {
	if !r.now.is(sign) {
		r.refuse()
		return
	}
	r.open()
}

// expectClose closes what was opened last.
func (r *reader) expectClose(sign string) {
	r.expect(sign)
	r.deep--
}

// part reads a global or a function.
func (r *reader) part(p *program) {
	switch {
	case r.take("var"):
		p.parts = append(p.parts, r.global())
	case r.take("fn"):
		f := r.function()
		f.number = len(p.functions)
		p.functions = append(p.functions, f)
		p.parts = append(p.parts, f)
	default:
		r.refuse()
	}
}

func (r *reader) global() *global {
	g := &global{name: r.expectKind(kindName)}
	if r.take("[") {
		g.array = true
		g.size = r.expectKind(kindNumber)
		r.expect("]")
	}
	r.expect(";")
	return g
}

func (r *reader) function() *function {
	f := &function{name: r.expectKind(kindName)}
	r.expect("(")
	if !r.now.is(")") {
		f.params = append(f.params, r.expectKind(kindName))
		for r.take(",") {
			f.params = append(f.params, r.expectKind(kindName))
		}
	}
	r.expect(")")
	f.body = r.block()
	return f
}
