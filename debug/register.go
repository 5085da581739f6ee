package debug

import (
	"strconv"
	"strings"

	"arcade/api"
)

// register is one: its name, and the greatest number that it may be.
type register struct {
	name string
	most int
}

var registers = [...]register{
	{"a", topByte}, {"f", topByte}, {"b", topByte}, {"c", topByte},
	{"d", topByte}, {"e", topByte}, {"h", topByte}, {"l", topByte},
	{"bc", topWord}, {"de", topWord}, {"hl", topWord}, {"sp", topWord}, {"pc", topWord},
	{"ime", topBit},
}

// What is shown of the registers: in their own line, and behind an instruction that is traced.
const (
	lineNames  = "a f b c d e h l sp pc ime"
	traceNames = "a f bc de hl sp"
)

// stateNames are the names of what the processor does.
var stateNames = [...]string{api.Running: "running", api.Halted: "halted", api.Stopped: "stopped", api.Locked: "locked"}

// registerOf looks a register up by its name.
func registerOf(name string) (register, bool) {
	for _, g := range registers {
		if g.name == name {
			return g, true
		}
	}
	return register{}, false
}

// written is a number of the register as answers have it.
func (g register) written(n int) string {
	switch g.most {
	case topByte:
		return byteText(n)
	case topWord:
		return wordText(n)
	}
	return strconv.Itoa(n)
}

// value is the register's number.
func (g register) value(r api.Regs) int {
	switch g.name {
	case "bc", "de", "hl":
		return *fieldOf(&r, g.name[:1])<<8 | *fieldOf(&r, g.name[1:])
	case "ime":
		if r.IME {
			return 1
		}
		return 0
	}
	return *fieldOf(&r, g.name)
}

// with is all registers with this one changed.
func (g register) with(r api.Regs, n int) api.Regs {
	switch g.name {
	case "bc", "de", "hl":
		*fieldOf(&r, g.name[:1]), *fieldOf(&r, g.name[1:]) = n>>8, n&topByte
	case "ime":
		r.IME = n == 1
	default:
		*fieldOf(&r, g.name) = n
	}
	return r
}

// fieldOf is where the number of a register stands that is neither a pair nor ime.
func fieldOf(r *api.Regs, name string) *int {
	switch name {
	case "a":
		return &r.A
	case "f":
		return &r.F
	case "b":
		return &r.B
	case "c":
		return &r.C
	case "d":
		return &r.D
	case "e":
		return &r.E
	case "h":
		return &r.H
	case "l":
		return &r.L
	case "sp":
		return &r.SP
	}
	return &r.PC
}

// registersText writes registers, each with its number, with a blank between as between their names.
func registersText(r api.Regs, names string) string {
	texts := strings.Fields(names)
	for i, name := range texts {
		g, _ := registerOf(name)
		texts[i] = name + "=" + g.written(g.value(r))
	}
	return strings.Join(texts, " ")
}

// registersLine is the registers' line.
func registersLine(r api.Regs) string {
	return registersText(r, lineNames) + " state=" + stateNames[r.State] + "\n"
}
