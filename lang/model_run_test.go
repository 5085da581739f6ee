package lang_test

import (
	"arcade/api"
)

// modelMachine does a tree. Names are looked for when they are come to.
type modelMachine struct {
	parts   []*modelPart
	in      []int
	fuel    int
	arrays  map[string][]int // globals: those that are none have one element
	scopes  []map[string]int // of the function that runs
	running int
	result  api.LangRun
}

// modelEnding is what ends a run from within; modelReturn, modelBreak and modelContinue are what leave a block.
type (
	modelEnding   struct{}
	modelReturn   struct{ value int }
	modelBreak    struct{}
	modelContinue struct{}
)

// modelRun is how a source that is right is run.
func modelRun(source string, in []int, fuel int) (result api.LangRun) {
	m := &modelMachine{parts: modelTree(source), in: in, fuel: fuel, arrays: map[string][]int{}}
	for _, p := range m.parts {
		if !p.isFunc {
			words := 1
			if p.size != nil {
				words = p.size.value
			}
			m.arrays[p.name.text] = make([]int, words)
		}
	}
	defer func() {
		switch r := recover().(type) {
		case nil, modelEnding:
			result = m.result
		default:
			panic(r)
		}
	}()
	value := m.call(modelPartOf(m.parts, "main"), nil)
	m.result.Kind, m.result.Value = 1, value
	return
}

func (m *modelMachine) end(kind, value, place int) {
	m.result.Kind, m.result.Value, m.result.Place = kind, value, place
	panic(modelEnding{})
}

func (m *modelMachine) step() {
	if m.result.Steps == m.fuel {
		m.end(3, 0, 0)
	}
	m.result.Steps++
}

func (m *modelMachine) call(f *modelPart, arguments []int) (value int) {
	was := m.scopes
	m.scopes = []map[string]int{{}}
	for i, name := range f.params {
		m.scopes[0][name.text] = arguments[i]
	}
	m.running++
	defer func() {
		m.scopes = was
		m.running--
		switch r := recover().(type) {
		case nil:
		case modelReturn:
			value = r.value
		default:
			panic(r)
		}
	}()
	m.statements(f.body)
	return 0
}

func (m *modelMachine) block(block []*modelStatement) {
	deep := len(m.scopes)
	m.scopes = append(m.scopes, map[string]int{})
	defer func() { m.scopes = m.scopes[:deep] }()
	m.statements(block)
}

func (m *modelMachine) statements(block []*modelStatement) {
	for _, s := range block {
		m.statement(s)
	}
}

func (m *modelMachine) statement(s *modelStatement) {
	if s.kind == "while" {
		for m.round(s) {
		}
		return
	}
	m.step()
	switch s.kind {
	case "{":
		m.block(s.blocks[0])
	case "if":
		m.choose(s)
	case "break":
		panic(modelBreak{})
	case "continue":
		panic(modelContinue{})
	case "return":
		value := 0
		if len(s.exprs) > 0 {
			value = m.value(s.exprs[0])
		}
		panic(modelReturn{value})
	case "out":
		value := m.value(s.exprs[0])
		m.put(byte(value%256), s.token.place)
	case "print":
		for i := 1; i < len(s.text)-1; i++ {
			m.step()
			m.put(s.text[i], s.token.place)
		}
	case "var":
		value := m.value(s.exprs[0])
		m.scopes[len(m.scopes)-1][s.token.text] = value
	case "=":
		value := m.value(s.exprs[0])
		m.set(s.token.text, value)
	case "[":
		index := m.value(s.exprs[0].parts[0])
		value := m.value(s.exprs[1])
		*m.element(s.exprs[0].token, index) = value
	case "(":
		m.value(s.exprs[0])
	}
}

// round tells whether another one of a loop is to come.
func (m *modelMachine) round(s *modelStatement) (more bool) {
	m.step()
	if m.value(s.exprs[0]) == 0 {
		return false
	}
	defer func() {
		switch r := recover().(type) {
		case nil, modelContinue:
			more = true
		case modelBreak:
			more = false
		default:
			panic(r)
		}
	}()
	m.block(s.blocks[0])
	return true
}

func (m *modelMachine) choose(s *modelStatement) {
	switch {
	case m.value(s.exprs[0]) != 0:
		m.block(s.blocks[0])
	case s.other != nil:
		m.statement(s.other)
	case len(s.blocks) > 1:
		m.block(s.blocks[1])
	}
}

func (m *modelMachine) put(b byte, place int) {
	if len(m.result.Out) >= 1024 {
		m.end(2, 4, place)
	}
	m.result.Out = append(m.result.Out, b)
}

func (m *modelMachine) set(name string, value int) {
	for i := len(m.scopes) - 1; i >= 0; i-- {
		if _, there := m.scopes[i][name]; there {
			m.scopes[i][name] = value
			return
		}
	}
	m.arrays[name][0] = value
}

func (m *modelMachine) get(name string) int {
	for i := len(m.scopes) - 1; i >= 0; i-- {
		if value, there := m.scopes[i][name]; there {
			return value
		}
	}
	return m.arrays[name][0]
}

func (m *modelMachine) element(name modelToken, index int) *int {
	array := m.arrays[name.text]
	if index >= len(array) {
		m.end(2, 1, name.place)
	}
	return &array[index]
}

func (m *modelMachine) value(e *modelExpr) int {
	m.step()
	switch e.kind {
	case "n":
		return e.token.value
	case "w":
		return m.get(e.token.text)
	case "[":
		index := m.value(e.parts[0])
		return *m.element(e.token, index)
	case "in":
		if len(m.in) == 0 {
			return 0
		}
		value := m.in[0]
		m.in = m.in[1:]
		return value
	case "left":
		return len(m.in)
	case "ahead":
		return modelAhead(e.token.text, m.value(e.parts[0]))
	case "between":
		return m.between(e)
	}
	var arguments []int
	for _, p := range e.parts {
		arguments = append(arguments, m.value(p))
	}
	if m.running >= 16 {
		m.end(2, 3, e.token.place)
	}
	return m.call(modelPartOf(m.parts, e.token.text), arguments)
}

func modelAhead(sign string, value int) int {
	switch {
	case sign == "-":
		return (65536 - value) % 65536
	case sign == "~":
		return 65535 - value
	case value == 0:
		return 1
	}
	return 0
}

func (m *modelMachine) between(e *modelExpr) int {
	left, sign := m.value(e.parts[0]), e.token.text
	if sign == "&&" && left == 0 {
		return 0
	}
	if sign == "||" && left != 0 {
		return 1
	}
	right := m.value(e.parts[1])
	if right == 0 && (sign == "/" || sign == "%") {
		m.end(2, 2, e.token.place)
	}
	return modelBetween(sign, left, right)
}

// modelBetween reckons by what the signs of numbers of one bit, and what counting, would give, where that is another way than the language's own.
func modelBetween(sign string, left, right int) int {
	is := map[string]bool{
		"&&": right > 0, "||": right > 0,
		"==": left == right, "!=": left != right, "<": left < right, "<=": left <= right, ">": left > right, ">=": left >= right,
	}
	if holds, there := is[sign]; there {
		if holds {
			return 1
		}
		return 0
	}
	switch sign {
	case "+":
		return (left + right) % 65536
	case "-":
		return (left + 65536 - right) % 65536
	case "*":
		return left * right % 65536
	case "/":
		return (left - left%right) / right
	case "%":
		return left - left/right*right
	case "<<", ">>":
		for range min(right, 17) {
			if sign == "<<" {
				left = left * 2 % 65536
			} else {
				left /= 2
			}
		}
		return left
	}
	value := 0
	for bit := 1; bit < 65536; bit *= 2 {
		a, b := left/bit%2, right/bit%2
		if sign == "&" && a+b == 2 || sign == "|" && a+b > 0 || sign == "^" && a+b == 1 {
			value += bit
		}
	}
	return value
}
