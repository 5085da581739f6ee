package console

import "arcade/api"

// The greatest carry: an instruction has at most 24 clocks, and a dispatch 20 that may follow it; the first cycle of both was due.
const mostCarry = 24 + 20 - api.CycleClocks

// State tells all that it is, but the ROM.
func (c *Console) State() []byte {
	return append([]byte{byte(c.carry)}, c.Board.State()...)
}

// Load makes it so.
func (c *Console) Load(state []byte) api.Errno {
	if len(state) == 0 || !mayCarry(int(state[0])) || c.Board.Load(state[1:]) != api.OK {
		return api.ErrConsoleState
	}
	c.carry = int(state[0])
	return api.OK
}

// mayCarry tells whether a frame may have had so many clocks too much.
func mayCarry(clocks int) bool {
	return clocks <= mostCarry && clocks%api.CycleClocks == 0
}
