package debug

import (
	"strconv"
	"strings"

	"arcade/api"
	"arcade/asm"
)

// What stands for a number that is left out, and how many bytes a line of mem has.
const (
	memStanding  = 16
	listStanding = 8
	memLine      = 16
)

// longest is how many bytes an instruction has at most.
const longest = 3

// regs shows the registers.
func (d *Debugger) regs(r *reader) (string, error) {
	if err := r.end(); err != nil {
		return "", err
	}
	return registersLine(d.board.Regs()), nil
}

// mem shows bytes.
func (d *Debugger) mem(r *reader) (string, error) {
	at := r.address()
	left := r.numberOr(memStanding, 1, api.MaxMem)
	if err := r.end(); err != nil {
		return "", err
	}
	var text strings.Builder
	for ; left > 0; left -= memLine {
		line := make([]byte, min(left, memLine))
		for i := range line {
			line[i] = byte(d.board.Peek((at + i) & topWord))
		}
		text.WriteString(wordText(at) + ": " + bytesText(line) + "\n")
		at = (at + len(line)) & topWord
	}
	return text.String(), nil
}

// list shows instructions.
func (d *Debugger) list(r *reader) (string, error) {
	at := d.board.Regs().PC
	if r.more() {
		at = r.address()
	}
	many := r.numberOr(listStanding, 1, api.MaxList)
	if err := r.end(); err != nil {
		return "", err
	}
	var text strings.Builder
	for range many {
		ins := d.instructionAt(at)
		text.WriteString(listed(at, ins) + "\n")
		at = behind(at, ins)
	}
	return text.String(), nil
}

// instructionAt is the instruction at an address. None goes on behind the last one.
func (d *Debugger) instructionAt(at int) api.Ins {
	code := make([]byte, min(longest, topWord+1-at))
	for i := range code {
		code[i] = byte(d.board.Peek(at + i))
	}
	ins, _ := asm.Disasm(code, 0, at) // it takes every address, and there is a byte
	return ins
}

// listed is an instruction as it is listed.
func listed(at int, ins api.Ins) string {
	return wordText(at) + ": " + ins.Text
}

// behind is the address behind an instruction.
func behind(at int, ins api.Ins) int {
	return (at + ins.Bytes) & topWord
}

// sum shows the picture's check sum.
func (d *Debugger) sum(r *reader) (string, error) {
	if err := r.end(); err != nil {
		return "", err
	}
	return "$" + digits(sumOf(d.board.Frame()), 8) + "\n", nil
}

// sent shows what was sent on the serial line.
func (d *Debugger) sent(r *reader) (string, error) {
	if err := r.end(); err != nil {
		return "", err
	}
	return bytesText(d.board.Sent()) + "\n", nil
}

// tellCycles shows how many cycles went by.
func (d *Debugger) tellCycles(r *reader) (string, error) {
	if err := r.end(); err != nil {
		return "", err
	}
	return strconv.Itoa(d.cycles) + "\n", nil
}
