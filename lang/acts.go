package lang

// act does a statement, or the statements of a block, and tells how it goes on behind it.
type act func(*run) (flow, error)

// flow is how it goes on behind a statement.
type flow int

const (
	flowOn       flow = iota // with the next one
	flowBreak                // behind the innermost loop
	flowContinue             // with that loop's expression
	flowReturn               // where the function was called
)

// beginning is what does a step, and then a statement.
func beginning(a act) act {
	return func(r *run) (flow, error) {
		if err := r.step(); err != nil {
			return flowOn, err
		}
		return a(r)
	}
}

// working is a statement that works something out, does something with it, and goes on.
func working(out value, with func(*run, int) error) act {
	return beginning(func(r *run) (flow, error) {
		v, err := out(r)
		if err != nil {
			return flowOn, err
		}
		return flowOn, with(r, v)
	})
}

// act does the statements alone: a block that is a statement does a step of its own.
func (b block) act() act {
	var acts []act
	for _, s := range b {
		acts = append(acts, s.act())
	}
	return func(r *run) (flow, error) {
		for _, a := range acts {
			if how, err := a(r); err != nil || how != flowOn {
				return how, err
			}
		}
		return flowOn, nil
	}
}

// setting is a statement that sets a variable.
func setting(s slot, e expression) act {
	return working(e.value(), func(r *run, v int) error {
		*r.variable(s) = v
		return nil
	})
}

func (d *declaration) act() act {
	return setting(d.slot, d.value)
}

func (a *assignment) act() act {
	return setting(a.slot, a.value)
}

func (a *elementAssignment) act() act {
	index, worth := a.element.index.value(), a.value.value()
	return beginning(func(r *run) (flow, error) {
		i, v, err := both(r, index, worth)
		if err != nil {
			return flowOn, err
		}
		// The index is looked at behind the value.
		to, err := r.element(a.element, i)
		if err != nil {
			return flowOn, err
		}
		*to = v
		return flowOn, nil
	})
}

func (s *callStatement) act() act {
	return working(s.call.value(), func(*run, int) error { return nil })
}

func (s *choice) act() act {
	condition, then, otherwise := s.condition.value(), s.then.act(), s.last.act()
	if s.otherwise != nil {
		otherwise = s.otherwise.act()
	}
	return beginning(func(r *run) (flow, error) {
		v, err := condition(r)
		switch {
		case err != nil:
			return flowOn, err
		case v != 0:
			return then(r)
		}
		return otherwise(r)
	})
}

func (l *loop) act() act {
	// Each time ahead of its expression is a step.
	round := l.round()
	return func(r *run) (flow, error) {
		for {
			how, err := round(r)
			switch {
			case err != nil || how == flowReturn:
				return how, err
			case how == flowBreak:
				return flowOn, nil
			}
		}
	}
}

// round is the loop's expression, and its body, if that is not 0; else a break.
func (l *loop) round() act {
	condition, body := l.condition.value(), l.body.act()
	return beginning(func(r *run) (flow, error) {
		v, err := condition(r)
		if err != nil || v == 0 {
			return flowBreak, err
		}
		return body(r)
	})
}

func (s *blockStatement) act() act {
	return beginning(s.body.act())
}

func (l *leap) act() act {
	how := flowBreak
	if l.word.is("continue") {
		how = flowContinue
	}
	return beginning(func(*run) (flow, error) { return how, nil })
}

func (g *giveBack) act() act {
	worth := value(func(*run) (int, error) { return 0, nil })
	if g.value != nil {
		worth = g.value.value()
	}
	return beginning(func(r *run) (flow, error) {
		v, err := worth(r)
		r.returned = v
		return flowReturn, err
	})
}

func (o *output) act() act {
	return working(o.value.value(), func(r *run, v int) error { return r.put(byte(v), o.word) })
}

func (p *printing) act() act {
	text := p.bytes()
	return beginning(func(r *run) (flow, error) {
		for _, b := range []byte(text) {
			if err := r.step(); err != nil {
				return flowOn, err
			}
			if err := r.put(b, p.word); err != nil {
				return flowOn, err
			}
		}
		return flowOn, nil
	})
}
