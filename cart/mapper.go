package cart

import "arcade/api"

// mapper says which banks are seen. The numbers of banks that it tells may be beyond what there is: then they go round.
type mapper interface {
	set(addr int, v byte) // a register, by a write to an address of the ROM
	lower() int           // the bank of ROM that is seen first
	upper() int           // the bank behind it
	ram() (int, bool)     // the bank of RAM, if one is seen
	kept() byte           // the bits that each byte of the RAM has
}

// Bits of registers and of RAM.
const (
	halfByte  = 15
	wholeByte = 255
	opens     = 10 // what is written to see the RAM
)

// mapperOf makes one, with its registers as at the start.
func mapperOf(number int) mapper {
	switch number {
	case api.Mapper1:
		return &mapper1{low: 1}
	case api.Mapper2:
		return &mapper2{low: 1}
	case api.Mapper3:
		return &mapper3{low: 1}
	case api.Mapper5:
		return &mapper5{low: 1}
	}
	return unmapped{}
}

// unmapped is no mapper: two banks of ROM and one of RAM, always seen.
type unmapped struct{}

func (unmapped) set(int, byte)    {}
func (unmapped) lower() int       { return 0 }
func (unmapped) upper() int       { return 1 }
func (unmapped) ram() (int, bool) { return 0, true }
func (unmapped) kept() byte       { return wholeByte }

// mapper1: PICK belongs to the bank of ROM behind, and with MODE 1 to the first one and to the RAM too.
type mapper1 struct {
	on, low, pick, mode byte
}

func (m *mapper1) set(addr int, v byte) {
	switch addr >> 13 {
	case 0:
		m.on = oneIf(v&halfByte == opens)
	case 1:
		m.low = max(v&31, 1)
	case 2:
		m.pick = v & 3
	case 3:
		m.mode = v & 1
	}
}

func (m *mapper1) lower() int       { return 32 * m.further() }
func (m *mapper1) upper() int       { return int(m.low) + 32*int(m.pick) }
func (m *mapper1) ram() (int, bool) { return m.further(), m.on == 1 }
func (m *mapper1) kept() byte       { return wholeByte }

// further is what PICK comes to where MODE has a say.
func (m *mapper1) further() int {
	if m.mode == 0 {
		return 0
	}
	return int(m.pick)
}

// mapper2 has RAM of its own, of half bytes; bit 8 of an address tells its registers apart.
type mapper2 struct {
	on, low byte
}

func (m *mapper2) set(addr int, v byte) {
	if addr >= upperAt {
		return
	}
	if addr&0x100 != 0 {
		m.low = max(v&halfByte, 1)
	} else {
		m.on = oneIf(v&halfByte == opens)
	}
}

func (m *mapper2) lower() int       { return 0 }
func (m *mapper2) upper() int       { return int(m.low) }
func (m *mapper2) ram() (int, bool) { return 0, m.on == 1 }
func (m *mapper2) kept() byte       { return halfByte }

// mapper3 sees RAM only where PICK is that of one of its four banks.
type mapper3 struct {
	on, low, pick byte
}

func (m *mapper3) set(addr int, v byte) {
	switch addr >> 13 {
	case 0:
		m.on = oneIf(v&halfByte == opens)
	case 1:
		m.low = max(v&127, 1)
	case 2:
		m.pick = v & halfByte
	}
}

func (m *mapper3) lower() int       { return 0 }
func (m *mapper3) upper() int       { return int(m.low) }
func (m *mapper3) ram() (int, bool) { return int(m.pick), m.on == 1 && m.pick < 4 }
func (m *mapper3) kept() byte       { return wholeByte }

// mapper5 has nine bits of a bank's number, in two registers, and may see bank 0 twice.
type mapper5 struct {
	on, low, high, pick byte
}

func (m *mapper5) set(addr int, v byte) {
	switch addr >> 12 {
	case 0, 1:
		m.on = oneIf(v == opens)
	case 2:
		m.low = v
	case 3:
		m.high = v & 1
	case 4, 5:
		m.pick = v & halfByte
	}
}

func (m *mapper5) lower() int       { return 0 }
func (m *mapper5) upper() int       { return int(m.low) + 256*int(m.high) }
func (m *mapper5) ram() (int, bool) { return int(m.pick), m.on == 1 }
func (m *mapper5) kept() byte       { return wholeByte }

func oneIf(is bool) byte {
	if is {
		return 1
	}
	return 0
}
