package lang

import "arcade/api"

// value works an expression out.
type value func(*run) (int, error)

// stepping is what does a step, and then works an expression out.
func stepping(v value) value {
	return func(r *run) (int, error) {
		if err := r.step(); err != nil {
			return 0, err
		}
		return v(r)
	}
}

// both works two expressions out, the left one first.
func both(r *run, left, right value) (int, int, error) {
	a, err := left(r)
	if err != nil {
		return 0, 0, err
	}
	b, err := right(r)
	return a, b, err
}

func (n *number) value() value {
	v := n.token.value
	return stepping(func(*run) (int, error) { return v, nil })
}

func (v *variable) value() value {
	s := v.slot
	return stepping(func(r *run) (int, error) { return *r.variable(s), nil })
}

func (e *element) value() value {
	index := e.index.value()
	return stepping(func(r *run) (int, error) {
		i, err := index(r)
		if err != nil {
			return 0, err
		}
		from, err := r.element(e, i)
		if err != nil {
			return 0, err
		}
		return *from, nil
	})
}

func (l *call) value() value {
	var arguments []value
	for _, a := range l.arguments {
		arguments = append(arguments, a.value())
	}
	return stepping(func(r *run) (int, error) {
		locals := &frame{}
		for i, a := range arguments {
			v, err := a(r)
			if err != nil {
				return 0, err
			}
			locals[i] = v
		}
		if r.running == api.MaxCalls {
			return 0, trap(api.TrapDeep, l.name)
		}
		return r.call(l.function, locals)
	})
}

func (i *input) value() value {
	if i.word.is("left") {
		return stepping(func(r *run) (int, error) { return len(r.in), nil })
	}
	return stepping(func(r *run) (int, error) {
		if len(r.in) == 0 {
			return 0, nil
		}
		v := r.in[0]
		r.in = r.in[1:]
		return v, nil
	})
}

func (a *ahead) value() value {
	of, reckon := a.of.value(), reckoningOfOne(a.sign.text)
	return stepping(func(r *run) (int, error) {
		v, err := of(r)
		if err != nil {
			return 0, err
		}
		return reckon(v) & mostNumber, nil
	})
}

func (b *between) value() value {
	left, right := b.left.value(), b.right.value()
	switch b.operator.sign {
	case "&&":
		return shortened(left, right, false)
	case "||":
		return shortened(left, right, true)
	}
	reckon, divides := reckoningOfTwo(b.operator.sign), b.operator.divides()
	return stepping(func(r *run) (int, error) {
		x, y, err := both(r, left, right)
		switch {
		case err != nil:
			return 0, err
		case divides && y == 0:
			return 0, trap(api.TrapDivide, b.sign)
		}
		return reckon(x, y) & mostNumber, nil
	})
}

// shortened is of signs that leave out their right side where the left one, being true or not, tells all.
func shortened(left, right value, enough bool) value {
	return stepping(func(r *run) (int, error) {
		v, err := left(r)
		if err == nil && (v != 0) != enough {
			v, err = right(r)
		}
		if err != nil {
			return 0, err
		}
		return truth(v != 0), nil
	})
}

// truth is 1 of what is so, 0 of what is not.
func truth(so bool) int {
	if so {
		return 1
	}
	return 0
}
