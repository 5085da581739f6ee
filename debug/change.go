package debug

import "arcade/api"

// flagStep: of the flags only the higher half of a byte may be set.
const flagStep = 16

// set changes a register.
func (d *Debugger) set(r *reader) (string, error) {
	g := r.register()
	n := r.number(0, g.most)
	if g.name == "f" && n%flagStep != 0 {
		r.outOfBounds(n)
	}
	if err := r.end(); err != nil {
		return "", err
	}
	return d.changed(d.board.SetRegs(g.with(d.board.Regs(), n)))
}

// poke writes a byte.
func (d *Debugger) poke(r *reader) (string, error) {
	at := r.address()
	v := r.number(0, topByte)
	if err := r.end(); err != nil {
		return "", err
	}
	return d.changed(d.board.Poke(at, v))
}

// press says which buttons are down.
func (d *Debugger) press(r *reader) (string, error) {
	buttons := r.number(0, topByte)
	if err := r.end(); err != nil {
		return "", err
	}
	return d.changed(d.board.Press(buttons))
}

// changed is the answer of a command that changes the machine: if the board took it, nobody goes back behind it.
func (d *Debugger) changed(e api.Errno) (string, error) {
	if e != api.OK {
		return "", fault{e, "the board refuses it"}
	}
	d.forget()
	return "", nil
}
