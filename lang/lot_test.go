package lang_test

import (
	"math/rand"
	"slices"
	"strconv"
	"strings"
	"testing"

	"arcade/api"
)

// lot makes programs by lot, that are right as the checks go: few names, so that they hide each other; loops that end, and some that do not.
type lot struct {
	*rand.Rand
	tokens    []string
	variables []string // global ones
	arrays    map[string]int
	functions map[string]int // how many parameters each has
	scopes    [][]string
	locals    int
	loops     int
	deep      int
	size      int // how many tokens there may be
}

func newLot(seed int64) *lot {
	return &lot{Rand: rand.New(rand.NewSource(seed)), arrays: map[string]int{}, functions: map[string]int{"main": 0}}
}

func (l *lot) one(of ...string) string {
	return of[l.Intn(len(of))]
}

func (l *lot) add(tokens ...string) {
	l.tokens = append(l.tokens, tokens...)
}

// program makes the tokens of a program.
func (l *lot) program(size int) []string {
	l.size = size
	names := []string{"a", "b", "c", "d", "e", "i", "f", "g", "h"}
	l.Shuffle(len(names), func(i, j int) { names[i], names[j] = names[j], names[i] })
	var parts []string
	for i := range 2 + l.Intn(6) {
		parts = append(parts, names[i])
		switch l.Intn(3) {
		case 0:
			l.variables = append(l.variables, names[i])
		case 1:
			l.arrays[names[i]] = []int{1, 2, 3, 4, 7, 50, 70}[l.Intn(7)]
		default:
			l.functions[names[i]] = l.Intn(4) * l.Intn(3)
		}
	}
	parts = slices.Insert(parts, l.Intn(len(parts)+1), "main")
	for i, name := range parts {
		l.part(name, size*(i+1)/len(parts))
	}
	return l.tokens
}

// part makes a global or a function, up to so many tokens.
func (l *lot) part(name string, size int) {
	l.size = size
	params, is := l.functions[name]
	if !is {
		l.add("var", name)
		if words := l.arrays[name]; words > 0 {
			l.add("[", l.written(words), "]")
		}
		l.add(";")
		return
	}
	l.add("fn", name, "(")
	l.scopes, l.locals = [][]string{nil}, params
	for i, p := range l.Perm(6)[:params] {
		if i > 0 {
			l.add(",")
		}
		param := []string{"a", "b", "c", "d", "i", "n"}[p]
		l.add(param)
		l.scopes[0] = append(l.scopes[0], param)
	}
	l.add(")", "{")
	l.deep = 1
	for range 2 + l.Intn(7) {
		l.statement()
	}
	l.add("}")
}

// written is a number in one of the ways in which it may be.
func (l *lot) written(n int) string {
	switch l.Intn(8) {
	case 0:
		return "$" + strconv.FormatInt(int64(n), 16)
	case 1:
		return "$00" + strings.ToUpper(strconv.FormatInt(int64(n), 16))
	case 2:
		return "000" + strconv.Itoa(n)
	case 3:
		if n < 256 && n != '\n' && n != '\'' {
			return "'" + string([]byte{byte(n)}) + "'"
		}
	}
	return strconv.Itoa(n)
}

// number is one that is likely to be of interest.
func (l *lot) number() int {
	switch l.Intn(4) {
	case 0:
		return l.Intn(65536)
	case 1:
		return []int{15, 16, 17, 255, 256, 257, 32767, 32768, 65534, 65535}[l.Intn(10)]
	}
	return l.Intn(6)
}

func (l *lot) block() {
	l.add("{")
	l.deep++
	l.scopes = append(l.scopes, nil)
	for range l.Intn(5) {
		l.statement()
	}
	l.scopes = l.scopes[:len(l.scopes)-1]
	l.deep--
	l.add("}")
}

// known are the variables that may be set here.
func (l *lot) known() []string {
	return append(slices.Concat(l.scopes...), l.variables...)
}

// array is the name of one that is not hidden here, if there is one.
func (l *lot) array() string {
	var names []string
	for name := range l.arrays {
		if !slices.Contains(slices.Concat(l.scopes...), name) {
			names = append(names, name)
		}
	}
	if len(names) == 0 {
		return ""
	}
	slices.Sort(names)
	return l.one(names...)
}

func (l *lot) statement() {
	if len(l.tokens) > l.size || l.deep > 7 {
		l.add("out")
		l.expression(0)
		l.add(";")
		return
	}
	switch l.Intn(14) {
	case 0, 1, 2:
		l.declaration()
	case 3, 4:
		l.assignment()
	case 5:
		if name := l.array(); name != "" {
			l.element(name, 2)
			l.add("=")
			l.expression(3)
			l.add(";")
		}
	case 6:
		l.call(2)
		l.add(";")
	case 7, 8:
		l.choice()
	case 9, 10:
		l.loop()
	case 11:
		l.block()
	case 12:
		l.leap()
	default:
		l.output()
	}
}

func (l *lot) output() {
	if l.Intn(4) == 0 {
		l.add("print", l.one(`""`, `"x"`, `"two words"`, `"# not; a {comment}"`, "\"\t\xff\x00'\""), ";")
		return
	}
	l.add("out")
	l.expression(3)
	l.add(";")
}

func (l *lot) leap() {
	switch {
	case l.loops > 0 && l.Intn(3) > 0:
		l.add(l.one("break", "continue"), ";")
	case l.Intn(3) > 0:
		l.output()
	default:
		l.add("return")
		if l.Intn(4) > 0 {
			l.expression(3)
		}
		l.add(";")
	}
}

// declare makes a variable known in the innermost block, if it may be there.
func (l *lot) declare(name string, value func()) bool {
	last := len(l.scopes) - 1
	if l.locals == 24 || slices.Contains(l.scopes[last], name) {
		return false
	}
	l.add("var", name, "=")
	value()
	l.add(";")
	l.locals++
	l.scopes[last] = append(l.scopes[last], name)
	return true
}

func (l *lot) declaration() {
	l.declare(l.one("a", "b", "c", "d", "e", "f", "i", "main"), func() { l.expression(3) })
}

func (l *lot) assignment() {
	names := l.known()
	if len(names) == 0 {
		return
	}
	l.add(l.one(names...), "=")
	l.expression(3)
	l.add(";")
}

func (l *lot) choice() {
	l.add("if")
	l.expression(2)
	l.block()
	switch l.Intn(3) {
	case 0:
		l.add("else")
		l.choice()
	case 1:
		l.add("else")
		l.block()
	}
}

// loop makes one that most often ends.
func (l *lot) loop() {
	counter := l.one("i", "n", "k", "j")
	if l.Intn(4) == 0 || !l.declare(counter, func() { l.add("0") }) {
		l.add("while")
		if l.Intn(2) == 0 {
			l.add("left", "(", ")", "&&", "in", "(", ")")
		} else {
			l.expression(2)
		}
		l.loops++
		l.block()
		l.loops--
		return
	}
	l.add("while", counter, "<", strconv.Itoa(l.Intn(5)), "{", counter, "=", counter, "+", "1", ";")
	l.deep++
	l.loops++
	l.scopes = append(l.scopes, nil)
	for range 1 + l.Intn(3) {
		l.statement()
	}
	l.scopes = l.scopes[:len(l.scopes)-1]
	l.loops--
	l.deep--
	l.add("}")
}

// expression makes one; the greater it may be, the more signs it has.
func (l *lot) expression(most int) {
	if most == 0 || len(l.tokens) > l.size || l.deep > 8 {
		l.simple()
		return
	}
	switch l.Intn(12) {
	case 0, 1, 2, 3, 4:
		l.expression(most - 1)
		l.add(l.one(strings.Fields(strings.Join(modelRows, " "))...))
		l.expression(most - 1)
	case 5:
		l.deep++
		l.add(l.one("-", "~", "!"))
		l.expression(most - 1)
		l.deep--
	case 6, 7:
		l.bracket(most - 1)
	case 8:
		if name := l.array(); name != "" {
			l.element(name, most-1)
			return
		}
		l.simple()
	case 9:
		l.call(most - 1)
	default:
		l.simple()
	}
}

func (l *lot) bracket(most int) {
	l.deep++
	l.add("(")
	l.expression(most)
	l.add(")")
	l.deep--
}

// simple makes an expression of one token, or of an input.
func (l *lot) simple() {
	names := l.known()
	switch {
	case l.Intn(8) == 0 && l.deep < 10:
		l.add(l.one("in", "left"), "(", ")")
	case len(names) > 0 && l.Intn(3) > 0:
		l.add(l.one(names...))
	default:
		l.add(l.written(l.number()))
	}
}

// element makes one, most often with an index that may be.
func (l *lot) element(name string, most int) {
	l.add(name, "[")
	l.deep++
	if l.Intn(5) == 0 {
		l.expression(most)
	} else if l.Intn(2) == 0 || l.deep > 8 {
		l.add(l.written(l.Intn(l.arrays[name])))
	} else {
		l.bracket(most - 1)
		l.add("%", strconv.Itoa(l.arrays[name]))
	}
	l.deep--
	l.add("]")
}

func (l *lot) call(most int) {
	var names []string
	for name := range l.functions {
		names = append(names, name)
	}
	slices.Sort(names)
	name := l.one(names...)
	if name == "main" && l.Intn(4) > 0 {
		name = l.one(names...)
	}
	l.add(name, "(")
	l.deep++
	for i := range l.functions[name] {
		if i > 0 {
			l.add(",")
		}
		l.expression(min(most, 1))
	}
	l.deep--
	l.add(")")
}

// input is some numbers.
func (l *lot) input() []int {
	var in []int
	for range l.Intn(6) * l.Intn(3) {
		in = append(in, l.number())
	}
	return in
}

// laid is tokens one behind the other, with what may stand between: nothing where nothing must, or blanks and comments by lot.
func (l *lot) laid(tokens []string, wide bool) string {
	text := ""
	for _, token := range tokens {
		if text != "" && isWordly(text[len(text)-1]) && isWordly(token[0]) {
			text += " "
		}
		if wide {
			text += l.one("", "", "", "", "", " ", " ", "\n", "\t", "  \n", "#\n", "# a \"b' $\n")
		}
		text += token
	}
	if wide {
		text += l.one("", "\n", "#", " # ends", "#}\n")
	}
	return text
}

// isWordly tells whether a byte may be part of a word or a number.
func isWordly(b byte) bool {
	return b == '_' || b >= '0' && b <= '9' || b|32 >= 'a' && b|32 <= 'z'
}

// lotProgram is a program by lot that is not too long.
func lotProgram(seed int64) (string, []int) {
	for {
		l := newLot(seed)
		tokens := l.program(60 + l.Intn(340))
		if source := l.laid(tokens, l.Intn(3) == 0); len(source) <= api.MaxLang {
			return source, l.input()
		}
		seed += 1 << 32
	}
}

// Programs by lot are done as the other way of doing them does them, written so, and done so by the machine.
func TestL1L2L3L4ByLot(t *testing.T) {
	for part := range int64(8) {
		t.Run(strconv.FormatInt(part, 10), func(t *testing.T) {
			t.Parallel()
			kinds := map[int]int{}
			for i := range int64(90) {
				source, in := lotProgram(part*1000 + i)
				right(t, source)
				r := holdsWithin(t, source, in, 2000)
				kinds[r.Kind*10+r.Value*(r.Kind/2%2)]++
			}
			t.Log(kinds)
		})
	}
}
