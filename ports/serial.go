package ports

import (
	"slices"

	"arcade/api"
)

const (
	transferClocks = 4096
	transferBit    = 0x80 // LINE's bit that falls when a transfer is over
	nobody         = 0xff // comes in from a line without another end
)

// Sent tells the bytes that were sent.
func (p *Ports) Sent() []byte {
	return slices.Clone(p.sent)
}

// send is what comes of a transfer.
func (p *Ports) send() {
	if len(p.sent) == api.MaxSent {
		p.sent = slices.Delete(p.sent, 0, 1)
	}
	p.sent = append(p.sent, p.sending)
	p.sending = 0
	p.shift = nobody
	p.line &^= transferBit
	p.ask(api.AskSerial)
}

func (p *Ports) readShift() byte {
	return p.shift
}

func (p *Ports) writeShift(value byte) {
	p.shift = value
}

func (p *Ports) readLine() byte {
	return p.line | ^byte(lineBits)
}

func (p *Ports) writeLine(value byte) {
	p.line = value & lineBits
	p.transfer, p.sending = 0, 0
	if p.line == lineBits {
		p.transfer, p.sending = transferClocks, p.shift
	}
}
