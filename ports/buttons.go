package ports

import "arcade/api"

// A row is selected where its bit is 0.
const (
	firstRow  = 0x10
	secondRow = 0x20
	keyBits   = 0x0f
)

// Press says which buttons are down.
func (p *Ports) Press(buttons int) api.Errno {
	if buttons < 0 || buttons > 255 {
		return api.ErrArg
	}
	p.whileKeysChange(func() { p.buttons = byte(buttons) })
	return api.OK
}

// keys tells the key bits: a key that is down in a row that is selected is 0.
func (p *Ports) keys() byte {
	var down byte
	if p.rows&firstRow == 0 {
		down |= p.buttons & keyBits
	}
	if p.rows&secondRow == 0 {
		down |= p.buttons >> 4
	}
	return keyBits &^ down
}

// whileKeysChange does what may change the key bits, and asks for the interrupt if one of them falls by that.
func (p *Ports) whileKeysChange(change func()) {
	was := p.keys()
	change()
	if was&^p.keys() != 0 {
		p.ask(api.AskButtons)
	}
}

func (p *Ports) readButtons() byte {
	return ^byte(rowBits|keyBits) | p.rows | p.keys()
}

func (p *Ports) writeButtons(value byte) {
	p.whileKeysChange(func() { p.rows = value & rowBits })
}
