package cpu

// acts are the kinds of a row, up to the first that is none.
type acts [6]kind

// row is what an instruction is, or a dispatch: its machine cycles behind the first one, and what it does at the end of the last one.
type row struct {
	acts acts
	sure byte // of one with a condition: how many acts it has, if that does not hold; of others 0
	does func(*CPU)
}

// further tells how many bytes the instruction has behind its first one.
func (r row) further() uint16 {
	many := uint16(0)
	for _, k := range r.acts {
		if k == readBehind {
			many++
		}
	}
	return many
}

// toSecond is the opcode behind which stands one of the second table.
const toSecond = 203

// The parts of an opcode, from the highest bits on; p is what is left of y without its lowest bit.
func (c *CPU) x() byte { return c.code >> 6 }
func (c *CPU) y() byte { return c.code >> 3 & 7 }
func (c *CPU) z() byte { return c.code & 7 }
func (c *CPU) p() byte { return c.code >> 4 & 3 }

// row tells that of what goes on.
func (c *CPU) row() row {
	if c.phase == inDispatch {
		return row{acts{idle, idle, pushHigh, pushLowAsked, idle}, 0, (*CPU).enter}
	}
	if c.code == toSecond && c.many > 0 {
		return secondRow(c.read[0])
	}
	switch c.x() {
	case 0:
		return lowRow(c.y(), c.z())
	case 1:
		return moveRow(c.y(), c.z())
	case 2:
		return sumRow(c.z())
	}
	return highRow(c.y(), c.z())
}

// lowRow tells that of an opcode below 64.
func lowRow(y, z byte) row {
	switch z {
	case 0:
		return [8]row{
			{acts{}, 0, (*CPU).nothing},
			{acts{readBehind, readBehind, writeSPLow, writeSPHigh}, 0, (*CPU).nothing},
			{acts{readBehind}, 0, (*CPU).stop},
			{acts{readBehind, idle}, 0, (*CPU).jumpNear},
			{acts{readBehind, idle}, 1, (*CPU).jumpNear},
			{acts{readBehind, idle}, 1, (*CPU).jumpNear},
			{acts{readBehind, idle}, 1, (*CPU).jumpNear},
			{acts{readBehind, idle}, 1, (*CPU).jumpNear},
		}[y]
	case 1:
		return [2]row{
			{acts{readBehind, readBehind}, 0, (*CPU).loadPair},
			{acts{idle}, 0, (*CPU).addPair},
		}[y&1]
	case 2:
		return throughRow(y)
	case 3:
		return [2]row{
			{acts{idle}, 0, (*CPU).pairUp},
			{acts{idle}, 0, (*CPU).pairDown},
		}[y&1]
	}
	return byteRow(y, z)
}

// throughRow tells that of a load of A, or of a store, through a pair.
func throughRow(y byte) row {
	return [8]row{
		{acts{writeBC}, 0, (*CPU).nothing},
		{acts{readBC}, 0, (*CPU).loadA},
		{acts{writeDE}, 0, (*CPU).nothing},
		{acts{readDE}, 0, (*CPU).loadA},
		{acts{writeHL}, 0, (*CPU).hlUp},
		{acts{readHL}, 0, (*CPU).loadAUp},
		{acts{writeHL}, 0, (*CPU).hlDown},
		{acts{readHL}, 0, (*CPU).loadADown},
	}[y]
}

// byteRow tells that of INC, DEC and LD of a byte, and of what turns A.
func byteRow(y, z byte) row {
	if z == 7 {
		return row{acts{}, 0, (*CPU).turn}
	}
	load := z == 6
	switch {
	case load && y == atHL:
		return row{acts{readBehind, writeLatest}, 0, (*CPU).nothing}
	case load:
		return row{acts{readBehind}, 0, (*CPU).move}
	case y == atHL:
		return row{acts{readHL, writeStepped}, 0, (*CPU).step}
	}
	return row{acts{}, 0, (*CPU).step}
}

// moveRow tells that of an opcode from 64 to 127.
func moveRow(y, z byte) row {
	switch {
	case y == atHL && z == atHL:
		return row{acts{}, 0, (*CPU).halt}
	case y == atHL:
		return row{acts{writeSource}, 0, (*CPU).nothing}
	case z == atHL:
		return row{acts{readHL}, 0, (*CPU).move}
	}
	return row{acts{}, 0, (*CPU).move}
}

// sumRow tells that of an opcode from 128 to 191.
func sumRow(z byte) row {
	if z == atHL {
		return row{acts{readHL}, 0, (*CPU).sum}
	}
	return row{acts{}, 0, (*CPU).sum}
}

// highRow tells that of an opcode from 192 on.
func highRow(y, z byte) row {
	switch z {
	case 0:
		return [8]row{
			{acts{idle, popLow, popHigh, idle}, 1, (*CPU).ret},
			{acts{idle, popLow, popHigh, idle}, 1, (*CPU).ret},
			{acts{idle, popLow, popHigh, idle}, 1, (*CPU).ret},
			{acts{idle, popLow, popHigh, idle}, 1, (*CPU).ret},
			{acts{readBehind, writeHigh}, 0, (*CPU).nothing},
			{acts{readBehind, idle, idle}, 0, (*CPU).addSP},
			{acts{readBehind, readHigh}, 0, (*CPU).loadA},
			{acts{readBehind, idle}, 0, (*CPU).loadHL},
		}[y]
	case 1:
		return [8]row{
			{acts{popLow, popHigh}, 0, (*CPU).pop},
			{acts{popLow, popHigh, idle}, 0, (*CPU).ret},
			{acts{popLow, popHigh}, 0, (*CPU).pop},
			{acts{popLow, popHigh, idle}, 0, (*CPU).reti},
			{acts{popLow, popHigh}, 0, (*CPU).pop},
			{acts{}, 0, (*CPU).jumpHL},
			{acts{popLow, popHigh}, 0, (*CPU).pop},
			{acts{idle}, 0, (*CPU).loadSP},
		}[y]
	case 2:
		return [8]row{
			{acts{readBehind, readBehind, idle}, 2, (*CPU).jump},
			{acts{readBehind, readBehind, idle}, 2, (*CPU).jump},
			{acts{readBehind, readBehind, idle}, 2, (*CPU).jump},
			{acts{readBehind, readBehind, idle}, 2, (*CPU).jump},
			{acts{writeHighC}, 0, (*CPU).nothing},
			{acts{readBehind, readBehind, writeAtWord}, 0, (*CPU).nothing},
			{acts{readHighC}, 0, (*CPU).loadA},
			{acts{readBehind, readBehind, readAtWord}, 0, (*CPU).loadA},
		}[y]
	case 3:
		return [8]row{
			{acts{readBehind, readBehind, idle}, 0, (*CPU).jump},
			{acts{readBehind}, 0, (*CPU).nothing}, // the byte that it reads says what follows
			{acts{}, 0, (*CPU).lock},
			{acts{}, 0, (*CPU).lock},
			{acts{}, 0, (*CPU).lock},
			{acts{}, 0, (*CPU).lock},
			{acts{}, 0, (*CPU).di},
			{acts{}, 0, (*CPU).ei},
		}[y]
	}
	return callRow(y, z)
}

// callRow tells that of calls, of PUSH, and of sums with a byte of the instruction.
func callRow(y, z byte) row {
	switch {
	case z == 6:
		return row{acts{readBehind}, 0, (*CPU).sum}
	case z == 7:
		return row{acts{idle, pushHigh, pushLow}, 0, (*CPU).restart}
	case z == 4 && y < 4:
		return row{acts{readBehind, readBehind, idle, pushHigh, pushLow}, 2, (*CPU).call}
	case z == 5 && y&1 == 0:
		return row{acts{idle, pushPairHigh, pushPairLow}, 0, (*CPU).push}
	case z == 5 && y == 1:
		return row{acts{readBehind, readBehind, idle, pushHigh, pushLow}, 0, (*CPU).call}
	}
	return row{acts{}, 0, (*CPU).lock}
}

// secondRow tells that of an opcode of the second table, which is the byte that was read.
func secondRow(code byte) row {
	switch {
	case code&7 != atHL:
		return row{acts{readBehind}, 0, (*CPU).alter}
	case code>>6 == 1:
		return row{acts{readBehind, readHL}, 0, (*CPU).alter}
	}
	return row{acts{readBehind, readHL, writeAltered}, 0, (*CPU).alter}
}
