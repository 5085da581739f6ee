package cpu

import (
	"bytes"

	"arcade/api"
)

// Where a state has what, and its first byte, by which it is told from bytes that are none.
const (
	atMark     = 0
	atBytes    = 1
	atSP       = 9
	atPC       = 11
	atSwitches = 13
	atState    = 14
	atPhase    = 15
	atCode     = 16
	atDone     = 17
	atRead     = 18
	atAsked    = 21
	stateSize  = 22
	stateMark  = 0xcb
)

// The switches, as bits of one byte.
const (
	switchIME = 1 << iota
	switchDue
	switchTwice
)

// State tells all that it is.
func (c *CPU) State() []byte {
	s := make([]byte, stateSize)
	s[atMark] = stateMark
	copy(s[atBytes:], c.bytes[:])
	putWord(s[atSP:], c.sp)
	putWord(s[atPC:], c.pc)
	s[atSwitches] = bitIf(c.ime, switchIME) | bitIf(c.due, switchDue) | bitIf(c.twice, switchTwice)
	s[atState] = byte(c.state)
	s[atPhase] = byte(c.phase)
	s[atCode] = c.code
	s[atDone] = c.done
	copy(s[atRead:], c.read[:])
	s[atAsked] = c.asked
	return s
}

// Load makes it so. It goes the way again that the one went that told the state, and takes it only if it comes to the same.
func (c *CPU) Load(state []byte) api.Errno {
	if len(state) != stateSize {
		return api.ErrCpuState
	}
	again := began(state)
	if !again.sound() || !again.follow(state) || !bytes.Equal(again.State(), state) {
		return api.ErrCpuState
	}
	*c = again
	return api.OK
}

// began is the processor as it was when the state's instruction, or dispatch, began.
func began(state []byte) CPU {
	switches := state[atSwitches]
	c := CPU{
		registers: registers{
			sp:    wordAt(state[atSP:]),
			pc:    wordAt(state[atPC:]),
			ime:   switches&switchIME != 0,
			state: int(state[atState]),
		},
		due:   switches&switchDue != 0,
		twice: switches&switchTwice != 0,
	}
	copy(c.bytes[:], state[atBytes:])
	if phase(state[atPhase]) == inDispatch {
		c.phase = inDispatch
	}
	return c
}

// sound tells whether a processor may be so: what is due, and what is read twice, belongs to an instruction that interrupts do not stop; a dispatch to interrupts that are let.
func (c *CPU) sound() bool {
	if !within(c.told()) {
		return false
	}
	if c.due || c.twice {
		return c.due != c.twice && !c.ime && c.state == api.Running && c.phase != inDispatch
	}
	return c.phase != inDispatch || c.ime && c.state == api.Running
}

// follow does the cycles that the state tells of, and tells whether there were so many, and not the last one.
func (c *CPU) follow(state []byte) bool {
	if phase(state[atPhase]) == inInstruction {
		if c.state != api.Running {
			return false
		}
		c.act(state[atCode], 0)
	}
	if c.phase == atBoundary {
		return true
	}
	for c.done < state[atDone] && !c.over(c.row()) {
		c.act(state[atRead+c.many], state[atAsked]&allLines)
	}
	return !c.over(c.row())
}

func putWord(to []byte, w uint16) {
	to[0], to[1] = byte(w), byte(w>>8)
}

func wordAt(from []byte) uint16 {
	return wordOf(from[1], from[0])
}

func bitIf(is bool, bit byte) byte {
	if is {
		return bit
	}
	return 0
}
