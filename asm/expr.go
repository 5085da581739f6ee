package asm

import "arcade/api"

// act is what a step of an expression does.
type act int

const (
	actNumber act = iota
	actName
	actHere
	actOr // from here on as in signs
	actXor
	actAnd
	actLeft
	actRight
	actPlus
	actMinus
	actTimes
	actOver
	actRest
	actNegate
	actInvert
	actHigh
	actLow
)

// signs are those of the operators between two operands (of << and >> the first one), from actOr on; bindings tell how tightly each of them binds.
const signs = "|^&<>+-*/%"

var bindings = [10]int{0, 1, 2, 3, 3, 4, 4, 5, 5, 5}

const tightest = 5

// step is a number, a name or an operator of an expression. An expression is a list of them, operands ahead of their operator: so it is worked out from the front on.
type step struct {
	act   act
	place int
	value int64
	name  string
}

// expression reads one, and the blanks ahead of it and behind it.
func (r *reader) expression() []step {
	r.steps = nil
	r.binary(0)
	return r.steps
}

func (r *reader) push(s step) {
	r.steps = append(r.steps, s)
}

// binary reads operands with operators between that bind as tightly as that, or tighter.
func (r *reader) binary(binding int) {
	if binding > tightest {
		r.prefixed()
		return
	}
	r.binary(binding + 1)
	for {
		r.skipBlanks()
		operator, ok := r.operator(binding)
		if !ok {
			return
		}
		r.binary(binding + 1)
		r.push(operator)
	}
}

// operator goes on behind one that binds as tightly as that, if it comes next.
func (r *reader) operator(binding int) (step, bool) {
	next := r.next()
	for i, sign := range signs {
		if sign != next || bindings[i] != binding {
			continue
		}
		operator := step{act: actOr + act(i), place: r.at}
		r.at++
		if sign == '<' || sign == '>' {
			r.expect(sign)
		}
		return operator, true
	}
	return step{}, false
}

// prefixed reads an operand and the signs ahead of it, of which the last one is done first.
func (r *reader) prefixed() {
	var ahead []step
reading:
	for {
		r.skipBlanks()
		place := r.at
		switch {
		case r.take('-'):
			ahead = append(ahead, step{act: actNegate, place: place})
		case r.take('~'):
			ahead = append(ahead, step{act: actInvert, place: place})
		default:
			break reading
		}
	}
	r.operand()
	for i := len(ahead) - 1; i >= 0; i-- {
		r.push(ahead[i])
	}
}

func (r *reader) operand() {
	place := r.at
	switch next := r.next(); {
	case next >= '0' && next <= '9':
		r.push(step{act: actNumber, place: place, value: r.digits(10)})
	case r.take('$'):
		r.push(step{act: actNumber, place: place, value: r.digits(16)})
	case r.take('%'):
		r.push(step{act: actNumber, place: place, value: r.digits(2)})
	case r.take('\''):
		r.push(step{act: actNumber, place: place, value: r.quotedByte()})
	case r.take('@'):
		r.push(step{act: actHere, place: place})
	case next == '(':
		r.bracket()
	case next == '.' && r.points:
		r.push(step{act: actName, place: place, name: r.local()})
	default:
		r.wordOperand()
	}
}

// quotedByte reads a byte and the quote behind it. A byte may be a piece of a rune here: one rune of several bytes is none.
func (r *reader) quotedByte() int64 {
	if next := r.next(); next == none || next == '\n' || next == '\'' {
		r.refuse()
	}
	value := r.text[r.at]
	r.at++
	r.expect('\'')
	return int64(value)
}

// bracket reads an expression in round brackets.
func (r *reader) bracket() {
	if r.next() != '(' || r.deep == api.MaxDeep {
		r.refuse()
	}
	r.at++
	r.deep++
	r.binary(0)
	r.expect(')')
	r.deep--
}

// local reads a point and a word.
func (r *reader) local() string {
	r.expect('.')
	return "." + r.word()
}

// wordOperand reads a name, or high or low with its bracket.
func (r *reader) wordOperand() {
	place := r.at
	word := r.word()
	switch {
	case word == "high":
		r.partOf(step{act: actHigh, place: place})
	case word == "low":
		r.partOf(step{act: actLow, place: place})
	case reserved(word):
		r.refuse()
	case r.points && r.next() == '.':
		r.push(step{act: actName, place: place, name: word + r.local()})
	default:
		r.push(step{act: actName, place: place, name: word})
	}
}

// partOf reads the bracket of high or low, whose value is a part of what stands in it.
func (r *reader) partOf(part step) {
	r.skipBlanks()
	r.bracket()
	r.push(part)
}

// readExpression reads a text that is an expression alone.
func readExpression(text string) []step {
	r := reader{text: text}
	steps := r.expression()
	if !r.done() {
		r.refuse()
	}
	return steps
}
