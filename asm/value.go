package asm

import "arcade/api"

// The bounds of values, and a number that is beyond them.
const (
	least    = -1 << 31
	most     = 1<<31 - 1
	tooGreat = most + 1
)

// scope is what an expression may speak of: names, by what looks them up; what stands for @; and the label to which local names belong.
type scope struct {
	look  func(name string) (int, bool)
	here  int
	label string
}

// value works an expression out from the front on, so that the first thing that is wrong is told.
func (s scope) value(steps []step) int64 {
	var values []int64
	for _, p := range steps {
		var value int64
		ok := true
		switch n := len(values); {
		case p.act < actOr:
			value = s.single(p)
		case p.act < actNegate:
			value, ok = binaryValue(p.act, values[n-2], values[n-1])
			values = values[:n-2]
		default:
			value = prefixValue(p.act, values[n-1])
			values = values[:n-1]
		}
		if !ok || value < least || value > most {
			giveUp(p.place, api.ErrAsmNumber)
		}
		values = append(values, value)
	}
	return values[0]
}

// single is the value of a step that is an operand.
func (s scope) single(p step) int64 {
	switch p.act {
	case actNumber:
		return p.value
	case actHere:
		return int64(s.here)
	}
	value, ok := s.look(s.fullName(p.name))
	if !ok {
		giveUp(p.place, api.ErrAsmName)
	}
	return int64(value)
}

// fullName puts the label ahead of a local name. Without a label that stays with its point in front, as no name is kept.
func (s scope) fullName(name string) string {
	if name != "" && name[0] == '.' {
		return s.label + name
	}
	return name
}

// binaryValue is what an operator gives of values within their bounds, and whether it gives anything; in 64 bits nothing of it is lost.
func binaryValue(does act, a, b int64) (int64, bool) {
	switch does {
	case actOr:
		return a | b, true
	case actXor:
		return a ^ b, true
	case actAnd:
		return a & b, true
	case actPlus:
		return a + b, true
	case actMinus:
		return a - b, true
	case actTimes:
		return a * b, true
	case actOver, actRest:
		return divided(does, a, b)
	}
	return shifted(does, a, b)
}

func divided(does act, a, b int64) (int64, bool) {
	if b == 0 {
		return 0, false
	}
	if does == actOver {
		return a / b, true
	}
	return a % b, true
}

func shifted(does act, a, b int64) (int64, bool) {
	if b < 0 || b > 31 {
		return 0, false
	}
	if does == actLeft {
		return a << b, true
	}
	return a >> b, true
}

func prefixValue(does act, a int64) int64 {
	switch does {
	case actNegate:
		return -a
	case actInvert:
		return ^a
	case actHigh:
		return a >> 8 & 255
	}
	return a & 255
}
