package asm_test

import (
	"fmt"
	"maps"
	"math/big"
	"regexp"
	"slices"
	"strconv"
	"strings"
	"sync"

	"arcade/api"
)

// A second assembler, made otherwise than the program's: a line is cut into tokens and boiled down by regular expressions, an expression is split at its loosest operator and reckoned without bounds, an image is a map of addresses.

const reservedWords = " nop b c d e h l hl a bc de sp af nz z nc add adc sub sbc and xor or cp rlc rrc rl rr sla sra swap srl rlca rrca rla rra daa cpl scf ccf ld stop jr inc dec halt ret ldh pop reti jp di ei call push rst bit res set db dw ds org equ high low "

func isReserved(word string) bool {
	return strings.Contains(reservedWords, " "+word+" ")
}

// tok is a token: its kind is E of an operand, R of a reserved word, P of high and low, T of a text, L and G of << and >>, ? of what is none; of all else the sign itself.
type tok struct {
	kind byte
	text string
	at   int
}

var tokenShapes = []struct {
	kind  byte
	shape *regexp.Regexp
}{
	{'E', regexp.MustCompile(`^(?s:'[^\n']')`)},
	{'T', regexp.MustCompile(`^"[^"\n]*"`)},
	{'w', regexp.MustCompile(`^[A-Za-z_][A-Za-z_0-9]*`)},
	{'E', regexp.MustCompile(`^[0-9]+`)},
	{'E', regexp.MustCompile(`^\$[0-9A-Fa-f]+`)},
	{'L', regexp.MustCompile(`^<<`)},
	{'G', regexp.MustCompile(`^>>`)},
	{'.', regexp.MustCompile(`^\.[A-Za-z_][A-Za-z_0-9]*`)},
	{'E', regexp.MustCompile(`^@`)},
	{0, regexp.MustCompile(`^[-+*/%&|^~():,\[\]]`)},
}

var (
	nameShape   = regexp.MustCompile(`^[A-Za-z_]\w*$`)
	binaryShape = regexp.MustCompile(`^%[01]+`)
	quoteShape  = regexp.MustCompile(`^(?:"[^"]*(?:"|$)|'(?s:.)')`)
)

// latin makes a rune of each byte, since regular expressions go by runes.
func latin(s string) string {
	runes := make([]rune, len(s))
	for i := range len(s) {
		runes[i] = rune(s[i])
	}
	return string(runes)
}

func unLatin(s string) string {
	var b []byte
	for _, r := range s {
		b = append(b, byte(r))
	}
	return string(b)
}

// uncommented cuts a line, as latin gives it, at its comment.
func uncommented(line string) string {
	for i := 0; i < len(line); {
		if q := quoteShape.FindString(line[i:]); q != "" {
			i += len(q)
		} else if line[i] == ';' {
			return line[:i]
		} else {
			i++
		}
	}
	return line
}

// tokens cuts a text, as latin gives it; places are counted in bytes of it, so they are right where it is ASCII.
func tokens(text string) []tok {
	var all []tok
	for i := 0; i < len(text); {
		if text[i] == ' ' || text[i] == '\t' {
			i++
			continue
		}
		t := oneToken(text, i, len(all) > 0 && strings.IndexByte("E)T]", all[len(all)-1].kind) >= 0)
		if t.kind == '.' && len(all) > 0 {
			last := &all[len(all)-1]
			if last.kind == 'E' && last.at+len(last.text) == i && nameShape.MatchString(last.text) {
				last.text += t.text
				i += len(t.text)
				continue
			}
		}
		if t.kind == '.' {
			t.kind = 'E'
		}
		all = append(all, t)
		i += len(t.text)
	}
	return all
}

func oneToken(text string, at int, operandAhead bool) tok {
	rest := text[at:]
	if b := binaryShape.FindString(rest); b != "" && !operandAhead {
		return tok{'E', b, at}
	}
	for _, s := range tokenShapes {
		found := s.shape.FindString(rest)
		if found == "" {
			continue
		}
		kind := s.kind
		switch {
		case kind == 0:
			kind = found[0]
		case kind == 'w' && (found == "high" || found == "low"):
			kind = 'P'
		case kind == 'w' && isReserved(found):
			kind = 'R'
		case kind == 'w':
			kind = 'E'
		}
		if (s.kind == 'w' || kind == '.') && len(strings.TrimPrefix(found, ".")) > 16 {
			kind = '?'
		}
		return tok{kind, found, at}
	}
	return tok{'?', rest[:1], at}
}

const flatShape = `[-~]*E(?:[|^&LG+*/%-][-~]*E)*`

var (
	bracketsShape = regexp.MustCompile(`P?\(` + flatShape + `\)`)
	flat          = regexp.MustCompile(flatShape)
)

// boiled is a line of tokens in which each expression is one E; reserved words stand between strokes.
func boiled(all []tok) string {
	s, deep := "", 0
	for _, t := range all {
		switch t.kind {
		case '(':
			if deep++; deep > 20 {
				return "?"
			}
		case ')':
			deep--
		case 'R':
			s += "{" + t.text + "}"
			continue
		}
		s += string(t.kind)
	}
	for {
		less := bracketsShape.ReplaceAllString(s, "E")
		if less == s {
			return flat.ReplaceAllString(s, "E")
		}
		s = less
	}
}

type lineParts struct {
	label string
	rest  []tok
	shape string
}

var (
	labelShape     = regexp.MustCompile(`^(?:[A-Za-z_]\w*|\.\w+)$`)
	statementShape = regexp.MustCompile(`^(?:\{org\}E|\{db\}[ET](?:,[ET])*|\{dw\}E(?:,E)*|\{ds\}E(?:,E)?)$`)
)

// parts tells what a line is; false if it is none.
func parts(line string, shapes map[string]int) (lineParts, bool) {
	all := tokens(uncommented(line))
	var p lineParts
	if len(all) > 1 && all[0].kind == 'E' && labelShape.MatchString(all[0].text) {
		if all[1].kind == ':' {
			p.label, all = all[0].text, all[2:]
		} else if all[1].text == "equ" && all[0].text[0] != '.' {
			p.label, p.rest, p.shape = all[0].text, all[1:], boiled(all[1:])
			return p, p.shape == "{equ}E"
		}
	}
	p.rest, p.shape = all, boiled(all)
	_, ins := shapes[p.shape]
	return p, len(all) == 0 || ins || statementShape.MatchString(p.shape)
}

// instructionShapes tells the first opcode of each boiled-down instruction.
func instructionShapes() map[string]int {
	all := writtenOnce()
	shapes := map[string]int{}
	for code := 511; code >= 0; code-- {
		if all[code].text != "" {
			shapes[boiled(tokens(all[code].text))] = code
		}
	}
	return shapes
}

// fault is an error and the token at which it is.
type fault struct {
	why api.Errno
	at  int
}

var looseness = []string{"|", "^", "&", "LG", "+-", "*/%"}

// split finds the last operator of the loosest kind outside of brackets; -1 if there is none.
func split(all []tok) int {
	for _, signs := range looseness {
		deep := 0
		for i := len(all) - 1; i > 0; i-- {
			switch all[i].kind {
			case ')':
				deep++
			case '(':
				deep--
			}
			behindOperand := all[i-1].kind == 'E' || all[i-1].kind == ')'
			if deep == 0 && behindOperand && strings.IndexByte(signs, all[i].kind) >= 0 {
				return i
			}
		}
	}
	return -1
}

// worth is the value of an expression's tokens.
func worth(all []tok, look func(string) (int, bool), here int) (*big.Int, *fault) {
	first := all[0]
	at, v := first.at, new(big.Int)
	if i := split(all); i > 0 {
		a, wrong := worth(all[:i], look, here)
		if wrong != nil {
			return nil, wrong
		}
		b, wrong := worth(all[i+1:], look, here)
		if wrong != nil {
			return nil, wrong
		}
		at, v = all[i].at, reckon(all[i].kind, a, b)
	} else if len(all) == 1 {
		var why api.Errno
		if v, why = atom(first.text, look, here); why != 0 {
			return nil, &fault{why, at}
		}
	} else {
		inner := all[1:]
		if first.kind == 'P' {
			inner = all[2 : len(all)-1]
		} else if first.kind == '(' {
			inner = all[1 : len(all)-1]
		}
		x, wrong := worth(inner, look, here)
		if wrong != nil {
			return nil, wrong
		}
		v = prefix(first, x)
	}
	if v == nil || !v.IsInt64() || v.Int64() < -2147483648 || v.Int64() > 2147483647 {
		return nil, &fault{api.ErrAsmNumber, at}
	}
	return v, nil
}

func prefix(sign tok, x *big.Int) *big.Int {
	byteOf := func(v *big.Int) *big.Int { return new(big.Int).Mod(v, big.NewInt(256)) }
	switch sign.text {
	case "-":
		return new(big.Int).Neg(x)
	case "~":
		return new(big.Int).Sub(big.NewInt(-1), x)
	case "high":
		high, _ := new(big.Int).DivMod(x, big.NewInt(256), new(big.Int))
		return byteOf(high)
	case "low":
		return byteOf(x)
	}
	return x
}

func atom(text string, look func(string) (int, bool), here int) (*big.Int, api.Errno) {
	v := new(big.Int)
	switch {
	case text == "@":
		return v.SetInt64(int64(here)), 0
	case text[0] == '$':
		v.SetString(text[1:], 16)
	case text[0] == '%':
		v.SetString(text[1:], 2)
	case text[0] == '\'':
		return v.SetInt64(int64([]rune(text)[1])), 0
	case text[0] >= '0' && text[0] <= '9':
		v.SetString(text, 10)
	default:
		x, ok := look(text)
		if !ok {
			return nil, api.ErrAsmName
		}
		return v.SetInt64(int64(x)), 0
	}
	return v, 0
}

func reckon(sign byte, a, b *big.Int) *big.Int {
	v := new(big.Int)
	switch sign {
	case '|':
		return v.Or(a, b)
	case '^':
		return v.Xor(a, b)
	case '&':
		return v.And(a, b)
	case '+':
		return v.Add(a, b)
	case '-':
		return v.Sub(a, b)
	case '*':
		return v.Mul(a, b)
	case '/', '%':
		if b.Sign() == 0 {
			return nil
		}
		quotient, left := v.QuoRem(a, b, new(big.Int))
		if sign == '/' {
			return quotient
		}
		return left
	}
	if b.Sign() < 0 || b.Cmp(big.NewInt(31)) > 0 {
		return nil
	}
	power := new(big.Int).Exp(big.NewInt(2), b, nil)
	if sign == 'L' {
		return v.Mul(a, power)
	}
	v.DivMod(a, power, new(big.Int)) // a power is above 0, so this rounds down
	return v
}

// commas cuts the tokens behind a statement's first word at the commas outside of brackets (there are none inside).
func commas(all []tok) [][]tok {
	found := [][]tok{nil}
	for _, t := range all {
		if t.kind == ',' {
			found = append(found, nil)
			continue
		}
		found[len(found)-1] = append(found[len(found)-1], t)
	}
	return found
}

// numberOf is the expression of an instruction that has one.
func numberOf(all []tok) []tok {
	for _, item := range commas(all[1:]) {
		var left []tok
		for i, t := range item {
			plain := t.kind != 'R' && t.kind != '[' && t.kind != ']'
			if t.kind == '+' && i > 0 && item[i-1].kind == 'R' {
				plain = false
			}
			if plain {
				left = append(left, t)
			}
		}
		if len(left) > 0 {
			return left
		}
	}
	return nil
}

type refLater struct {
	line, here int
	label      string
	all        []tok
	letter     byte // N S E W H as in opText; V of rst, B of bit
	at, many   int
}

type reference struct {
	names    map[string]int
	bytes    map[int]byte // of each address
	org      int
	address  int
	begun    bool
	label    string
	laters   []refLater
	opcodes  *[512]opText
	shapes   map[string]int
	lineNow  int
	lineHere int
}

var shapesOnce = sync.OnceValue(instructionShapes)

func newReference() *reference {
	return &reference{names: map[string]int{}, bytes: map[int]byte{}, opcodes: writtenOnce(), shapes: shapesOnce()}
}

// assemble gives the line and error of a source; 0, 0 if there is none.
func (r *reference) assemble(source string) (int, api.Errno) {
	if len(source) > 16000 {
		return 0, 22
	}
	lines := strings.SplitAfter(source, "\n")
	if lines[len(lines)-1] == "" {
		lines = lines[:len(lines)-1]
	}
	if len(lines) > 1000 {
		return 0, 22
	}
	for i, line := range lines {
		r.lineNow = i + 1
		if why := r.line(latin(strings.TrimSuffix(line, "\n"))); why != 0 {
			return i + 1, why
		}
	}
	for _, l := range r.laters {
		if why := r.later(l); why != 0 {
			return l.line, why
		}
	}
	return 0, 0
}

func (r *reference) full(name, label string) (string, bool) {
	if name[0] != '.' {
		return name, true
	}
	return label + name, label != ""
}

func (r *reference) worth(all []tok, here int, label string) (int, api.Errno) {
	v, wrong := worth(all, func(name string) (int, bool) {
		f, ok := r.full(name, label)
		if !ok {
			return 0, false
		}
		v, ok := r.names[f]
		return v, ok
	}, here)
	if wrong != nil {
		return 0, wrong.why
	}
	return int(v.Int64()), 0
}

func (r *reference) line(line string) api.Errno {
	p, ok := parts(line, r.shapes)
	if !ok {
		return api.ErrAsmText
	}
	name := ""
	if p.label != "" {
		if name, ok = r.full(p.label, r.label); !ok {
			return api.ErrAsmName
		}
		if _, there := r.names[name]; there {
			return api.ErrAsmTwice
		}
		if p.shape != "{equ}E" && p.label[0] != '.' {
			r.label = p.label
		}
	}
	r.lineHere = r.address
	value := r.address
	if len(p.rest) > 0 {
		v, why := r.statement(p, p.rest)
		if why != 0 {
			return why
		}
		if p.rest[0].text == "equ" {
			value = v
		}
	}
	if name != "" {
		r.names[name] = value
	}
	return 0
}

func (r *reference) statement(p lineParts, all []tok) (int, api.Errno) {
	items := commas(all[1:])
	switch all[0].text {
	case "equ":
		return r.worth(items[0], r.lineHere, r.label)
	case "org", "ds":
		v, why := r.worth(items[0], r.lineHere, r.label)
		if why == 0 && (v < 0 || v > 65535) {
			why = api.ErrAsmNumber
		}
		if why != 0 {
			return 0, why
		}
		return 0, r.move(all[0].text, v, items[1:])
	case "db", "dw":
		return 0, r.data(all[0].text, items)
	}
	return 0, r.instruction(r.shapes[p.shape], all)
}

func (r *reference) move(word string, v int, rest [][]tok) api.Errno {
	if word == "org" {
		if !r.begun {
			r.address = v
			return 0
		}
		if v < r.address {
			return api.ErrAsmOrg
		}
		return r.zeros(v - r.address)
	}
	at := r.address
	if why := r.zeros(v); why != 0 {
		return why
	}
	if len(rest) > 0 {
		r.keep(refLater{all: rest[0], letter: 'N', at: at, many: v})
	}
	return 0
}

func (r *reference) data(word string, items [][]tok) api.Errno {
	for _, item := range items {
		at := r.address
		if item[0].kind == 'T' {
			text := unLatin(item[0].text)
			text = text[1 : len(text)-1]
			if why := r.zeros(len(text)); why != 0 {
				return why
			}
			for i := range len(text) {
				r.bytes[at+i] = text[i]
			}
			continue
		}
		letter, size := byte('N'), 1
		if word == "dw" {
			letter, size = 'W', 2
		}
		if why := r.zeros(size); why != 0 {
			return why
		}
		r.keep(refLater{all: item, letter: letter, at: at, many: 1})
	}
	return 0
}

func (r *reference) instruction(code int, all []tok) api.Errno {
	at, o := r.address, r.opcodes[code]
	if why := r.zeros(o.size(code)); why != 0 {
		return why
	}
	r.bytes[at] = byte(code)
	if code >= 256 {
		r.bytes[at], r.bytes[at+1] = 203, byte(code)
	}
	switch i := strings.IndexAny(o.text, "NSEWH"); {
	case i >= 0:
		r.keep(refLater{all: numberOf(all), letter: o.text[i], at: at + 1, many: 1})
	case all[0].text == "rst":
		r.keep(refLater{all: numberOf(all), letter: 'V', at: at, many: 1})
	case all[0].text == "bit" || all[0].text == "res" || all[0].text == "set":
		r.keep(refLater{all: numberOf(all), letter: 'B', at: at + 1, many: 1})
	}
	return 0
}

func (r *reference) keep(l refLater) {
	l.line, l.here, l.label = r.lineNow, r.lineHere, r.label
	r.laters = append(r.laters, l)
}

func (r *reference) zeros(n int) api.Errno {
	if len(r.bytes)+n > 32768 || r.address+n > 65536 {
		return api.ErrAsmLong
	}
	for range n {
		if !r.begun {
			r.org, r.begun = r.address, true
		}
		r.bytes[r.address] = 0
		r.address++
	}
	return 0
}

func (r *reference) later(l refLater) api.Errno {
	v, why := r.worth(l.all, l.here, l.label)
	if why != 0 {
		return why
	}
	low, high := -128, 255
	switch l.letter {
	case 'S':
		high = 127
	case 'W':
		low, high = -32768, 65535
	case 'E':
		low, high = 0, 65535
	case 'H':
		low, high = 0xff00, 0xffff
	case 'V':
		low, high = 0, 56
	case 'B':
		low, high = 0, 7
	}
	if v < low || v > high || l.letter == 'V' && v%8 != 0 {
		return api.ErrAsmNumber
	}
	switch l.letter {
	case 'E':
		for far := -128; far <= 127; far++ {
			if (l.here+2+far+65536)%65536 == v {
				r.bytes[l.at] = byte(far)
				return 0
			}
		}
		return api.ErrAsmReach
	case 'W':
		r.bytes[l.at], r.bytes[l.at+1] = byte((v+65536)%256), byte((v+65536)/256)
	case 'V':
		r.bytes[l.at] = byte(0xc7 + v)
	case 'B':
		r.bytes[l.at] += byte(v * 8)
	default:
		for i := range l.many {
			r.bytes[l.at+i] = byte((v + 256) % 256)
		}
	}
	return 0
}

func (r *reference) image() api.Image {
	m := api.Image{Org: r.org}
	for i := range len(r.bytes) {
		m.Code = append(m.Code, r.bytes[r.org+i])
	}
	return m
}

func (r *reference) list() []string {
	var all []string
	for _, name := range slices.Sorted(maps.Keys(r.names)) {
		all = append(all, name+" "+strconv.Itoa(r.names[name]))
	}
	return all
}

func nameList(names []api.Name) []string {
	var all []string
	for _, n := range names {
		all = append(all, fmt.Sprintf("%s %d", n.Name, n.Value))
	}
	return all
}
