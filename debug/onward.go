package debug

import (
	"math"
	"strings"

	"arcade/api"
)

// endless is how many cycles may go by where nothing bounds them.
const endless = math.MaxInt

// step does instructions.
func (d *Debugger) step(r *reader) (string, error) {
	many := r.numberOr(1, 1, api.MaxStep)
	if err := r.end(); err != nil {
		return "", err
	}
	return d.goOn(d.instruction, counted(many), endless), nil
}

// run lets cycles go by.
func (d *Debugger) run(r *reader) (string, error) {
	many := r.number(1, api.MaxCycles)
	if err := r.end(); err != nil {
		return "", err
	}
	goal := d.cycles + many
	return d.goOn(d.instruction, func() bool { return d.cycles >= goal }, endless), nil
}

// over does an instruction, and what it calls.
func (d *Debugger) over(r *reader) (string, error) {
	if err := r.end(); err != nil {
		return "", err
	}
	regs := d.board.Regs()
	ins := d.instructionAt(regs.PC)
	if !strings.HasPrefix(ins.Text, "call") && !strings.HasPrefix(ins.Text, "rst") {
		return d.goOn(d.instruction, counted(1), endless), nil
	}
	next := behind(regs.PC, ins)
	back := func() bool {
		now := d.board.Regs()
		return now.PC == next && now.SP == regs.SP
	}
	return d.goOn(d.instruction, back, api.MaxCycles), nil
}

// out goes on until what was called returns.
func (d *Debugger) out(r *reader) (string, error) {
	if err := r.end(); err != nil {
		return "", err
	}
	sp := d.board.Regs().SP
	return d.goOn(d.instruction, func() bool { return d.board.Regs().SP > sp }, api.MaxCycles), nil
}

// until goes on until the processor comes to an address.
func (d *Debugger) until(r *reader) (string, error) {
	at := r.address()
	if err := r.end(); err != nil {
		return "", err
	}
	return d.goOn(d.instruction, func() bool { return d.board.Regs().PC == at }, api.MaxCycles), nil
}

// trace shows each instruction that it does.
func (d *Debugger) trace(r *reader) (string, error) {
	many := r.number(1, api.MaxTrace)
	if err := r.end(); err != nil {
		return "", err
	}
	var text strings.Builder
	shown := func() {
		pc := d.board.Regs().PC
		text.WriteString(listed(pc, d.instructionAt(pc)) + " ; ")
		d.instruction()
		text.WriteString(registersText(d.board.Regs(), traceNames) + "\n")
	}
	stopped := d.goOn(shown, counted(many), endless)
	return text.String() + stopped, nil
}

// counted tells when it was asked so many times.
func counted(many int) func() bool {
	return func() bool {
		many--
		return many <= 0
	}
}

// goOn does one instruction behind the other until something stops it; reached is asked once behind each. The answer says what did.
func (d *Debugger) goOn(each func(), reached func() bool, most int) string {
	begin := d.cycles
	for {
		each()
		if why := d.stops(reached(), d.cycles-begin >= most); why != "" {
			return d.stopped(why)
		}
	}
}

// stops tells why it stops behind an instruction; nothing, if it goes on.
func (d *Debugger) stops(reached, long bool) string {
	regs := d.board.Regs()
	number := d.hit(regs) // the watches learn their bytes, whatever stops it
	switch {
	case regs.State == api.Locked:
		return "locked"
	case number != 0:
		return pointText(number)
	case reached:
		return "done"
	case long:
		return "long"
	}
	return ""
}

// stopped is the answer of what has stopped.
func (d *Debugger) stopped(why string) string {
	return why + "\n" + registersLine(d.board.Regs())
}

// instruction does one.
func (d *Debugger) instruction() {
	d.keepPlace()
	d.cycle()
	for !d.board.Boundary() {
		d.cycle()
	}
	d.done++
}

func (d *Debugger) cycle() {
	d.board.Cycle()
	d.cycles++
}
