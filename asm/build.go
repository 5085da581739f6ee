package asm

import (
	"strings"

	"arcade/api"
)

// gap is a number that is worked out when all names are known, and where its bytes go.
type gap struct {
	steps []step
	arg   arg
	at    int // in the code
	many  int // how often it stands there
	end   int // the address behind the instruction
	scope scope
	line  int
}

// builder makes an image of a source's lines.
type builder struct {
	forms   map[string]int
	names   map[string]int
	label   string // the last one that is not local
	address int
	org     int // the address of the first byte
	code    []byte
	gaps    []gap
	line    int // which one is at work
}

// assemble builds a whole source; with an error it tells the line's number.
func assemble(source string) (*builder, int, api.Errno) {
	if len(source) > api.MaxSource {
		return nil, 0, api.ErrAsmLong
	}
	lines := strings.Split(strings.TrimSuffix(source, "\n"), "\n")
	if len(lines) > api.MaxLines {
		return nil, 0, api.ErrAsmLong
	}
	b := &builder{forms: forms(), names: map[string]int{}}
	gaveUp := attempt(func() { b.build(lines) })
	if gaveUp.why != api.OK {
		return nil, b.line, gaveUp.why
	}
	return b, 0, api.OK
}

func (b *builder) build(lines []string) {
	for i, text := range lines {
		b.line = i + 1
		b.add(readLine(text, b.forms))
	}
	for _, g := range b.gaps {
		b.line = g.line
		b.close(g)
	}
}

// refuse gives up at the line that is at work; the place within it is told to nobody.
func (b *builder) refuse(why api.Errno) {
	giveUp(0, why)
}

// add does what a line says. Its own name is known behind that alone.
func (b *builder) add(l line) {
	name := b.newName(l)
	value := b.address
	switch l.word {
	case "":
	case "equ":
		value = int(b.scope().value(l.items[0].steps))
	case "org":
		b.goTo(b.count(l.items[0]))
	case "ds":
		b.space(l.items)
	case "db":
		b.items(l.items, argByte, 1)
	case "dw":
		b.items(l.items, argWord, 2)
	default:
		b.instruction(l)
	}
	if name != "" {
		b.names[name] = value
	}
}

// newName tells in full which name a line gives, if any; it must not be there.
func (b *builder) newName(l line) string {
	if l.label == "" {
		return ""
	}
	local := l.label[0] == '.'
	if local && b.label == "" {
		b.refuse(api.ErrAsmName)
	}
	name := b.scope().fullName(l.label)
	if _, there := b.names[name]; there {
		b.refuse(api.ErrAsmTwice)
	}
	if !local && l.word != "equ" {
		b.label = name
	}
	return name
}

// scope is what an expression of this line may speak of.
func (b *builder) scope() scope {
	return scope{b.look, b.address, b.label}
}

func (b *builder) look(name string) (int, bool) {
	value, ok := b.names[name]
	return value, ok
}

// count is the value of an expression that must be known at once.
func (b *builder) count(i item) int {
	value := b.scope().value(i.steps)
	if !argPlace.allowed(value) {
		b.refuse(api.ErrAsmNumber)
	}
	return int(value)
}

func (b *builder) goTo(address int) {
	if len(b.code) == 0 {
		b.address = address
		return
	}
	if address < b.address {
		b.refuse(api.ErrAsmOrg)
	}
	b.grow(address - b.address)
}

// grow makes bytes that are 0 for now, and tells where in the code they are.
func (b *builder) grow(many int) int {
	at := len(b.code)
	if at+many > api.MaxImage || b.address+many > addresses {
		b.refuse(api.ErrAsmLong)
	}
	if at == 0 && many > 0 {
		b.org = b.address
	}
	b.code = append(b.code, make([]byte, many)...)
	b.address += many
	return at
}

// addresses is how many there are.
const addresses = 65536

func (b *builder) space(items []item) {
	around := b.scope()
	many := b.count(items[0])
	at := b.grow(many)
	if len(items) > 1 {
		b.leave(gap{steps: items[1].steps, arg: argByte, at: at, many: many, scope: around})
	}
}

// items makes bytes of expressions, so many of each, and of texts.
func (b *builder) items(items []item, kind arg, size int) {
	around := b.scope()
	for _, i := range items {
		if i.steps == nil {
			at := b.grow(len(i.text))
			copy(b.code[at:], i.text)
			continue
		}
		b.leave(gap{steps: i.steps, arg: kind, at: b.grow(size), many: 1, scope: around})
	}
}

func (b *builder) instruction(l line) {
	around := b.scope()
	op, _ := lookUp(l.code%tableSize, l.code >= tableSize)
	at := b.grow(op.bytes)
	if l.code >= tableSize {
		b.code[at], b.code[at+1] = toSecond, byte(l.code)
	} else {
		b.code[at] = byte(l.code)
	}
	if op.arg == argNone {
		return
	}
	if op.arg != argVector {
		at++
	}
	b.leave(gap{steps: l.items[0].steps, arg: op.arg, at: at, many: 1, end: b.address, scope: around})
}

// leave keeps a gap until all names are known.
func (b *builder) leave(g gap) {
	g.line = b.line
	b.gaps = append(b.gaps, g)
}

// close works a gap's number out, and writes it.
func (b *builder) close(g gap) {
	value := g.scope.value(g.steps)
	if !g.arg.allowed(value) {
		b.refuse(api.ErrAsmNumber)
	}
	for i := range g.many {
		if why := g.arg.store(b.code[g.at+i:], value, g.end); why != api.OK {
			b.refuse(why)
		}
	}
}
