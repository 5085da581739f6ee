package cart

import (
	"slices"

	"arcade/api"
)

// registers are those of all mappers, as a state has them: ON, LOW, HIGH, PICK, MODE.
type registers [5]byte

// State tells registers and RAM.
func (c *Cart) State() []byte {
	r := told(c.mapper)
	return slices.Concat(r[:], c.ram)
}

// Load makes them so.
func (c *Cart) Load(state []byte) api.Errno {
	var r registers
	if len(state) < len(r) || !c.fits(state[len(r):]) {
		return api.ErrCartState
	}
	copy(r[:], state)
	if !given(c.mapper, r) {
		return api.ErrCartState
	}
	put(c.mapper, r)
	copy(c.ram, state[len(r):])
	return api.OK
}

// told tells a mapper's registers: 0 where it has none.
func told(m mapper) registers {
	switch m := m.(type) {
	case *mapper1:
		return registers{m.on, m.low, 0, m.pick, m.mode}
	case *mapper2:
		return registers{m.on, m.low, 0, 0, 0}
	case *mapper3:
		return registers{m.on, m.low, 0, m.pick, 0}
	case *mapper5:
		return registers{m.on, m.low, m.high, m.pick, 0}
	}
	return registers{}
}

// put sets a mapper's registers to what it told, or another one like it.
func put(m mapper, r registers) {
	switch m := m.(type) {
	case *mapper1:
		*m = mapper1{on: r[0], low: r[1], pick: r[3], mode: r[4]}
	case *mapper2:
		*m = mapper2{on: r[0], low: r[1]}
	case *mapper3:
		*m = mapper3{on: r[0], low: r[1], pick: r[3]}
	case *mapper5:
		*m = mapper5{on: r[0], low: r[1], high: r[2], pick: r[3]}
	}
}

// given tells whether writes could give a mapper such registers.
func given(m mapper, r registers) bool {
	least, most := bounds(m)
	for i, v := range r {
		if v < least[i] || v > most[i] {
			return false
		}
	}
	return true
}

// bounds tells the least and the most that writes could give a mapper's registers; all between can be given.
func bounds(m mapper) (least, most registers) {
	switch m.(type) {
	case *mapper1:
		return registers{0, 1, 0, 0, 0}, registers{1, 31, 0, 3, 1}
	case *mapper2:
		return registers{0, 1, 0, 0, 0}, registers{1, 15, 0, 0, 0}
	case *mapper3:
		return registers{0, 1, 0, 0, 0}, registers{1, 127, 0, 15, 0}
	case *mapper5:
		return registers{0, 0, 0, 0, 0}, registers{1, 255, 1, 15, 0}
	}
	return registers{}, registers{}
}
