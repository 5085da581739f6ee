package ports

import "arcade/api"

// A state's last bytes are 0.
const (
	stateSize = 19
	zerosAt   = 14
)

// State tells all but what was sent.
func (p *Ports) State() []byte {
	state := make([]byte, stateSize)
	copy(state, []byte{
		p.buttons, p.rows, p.shift, p.line,
		byte(p.counter), byte(p.counter >> 8),
		p.timer, p.again, p.control, p.requests,
		byte(p.alarm),
		byte(p.transfer), byte(p.transfer >> 8), p.sending,
	})
	return state
}

// Load makes it so; nothing was sent then.
func (p *Ports) Load(state []byte) api.Errno {
	if len(state) != stateSize {
		return api.ErrPortState
	}
	loaded := Ports{
		buttons: state[0], rows: state[1], shift: state[2], line: state[3],
		counter: uint16(state[4]) | uint16(state[5])<<8,
		timer:   state[6], again: state[7], control: state[8], requests: state[9],
		alarm:    int(state[10]),
		transfer: int(state[11]) | int(state[12])<<8, sending: state[13],
	}
	if !loaded.mayBe() || !zeros(state[zerosAt:]) {
		return api.ErrPortState
	}
	*p = loaded
	return api.OK
}

func zeros(list []byte) bool {
	for _, b := range list {
		if b != 0 {
			return false
		}
	}
	return true
}

// mayBe tells whether no bit is there that is none, and clocks are to go only where something goes on.
func (p *Ports) mayBe() bool {
	if p.rows&^rowBits != 0 || p.line&^lineBits != 0 || p.control&^controlBits != 0 || p.requests&^requestBits != 0 {
		return false
	}
	if p.alarm > alarmClocks || p.transfer > transferClocks {
		return false
	}
	if p.transfer == 0 {
		return p.line != lineBits && p.sending == 0
	}
	return p.line == lineBits
}
