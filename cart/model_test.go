package cart_test

import "arcade/api"

// rule is a row of the chapter's table of registers.
type rule struct {
	mapper, from, to int
	has              func(addr int) bool // what else the address must have
	register         string
	value            func(v int) int
}

var rules = []rule{
	{1, 0x0000, 0x1fff, nil, "on", lowHalfTen},
	{1, 0x2000, 0x3fff, nil, "low", func(v int) int { return orOne(v % 32) }},
	{1, 0x4000, 0x5fff, nil, "pick", func(v int) int { return v % 4 }},
	{1, 0x6000, 0x7fff, nil, "mode", func(v int) int { return v % 2 }},
	{2, 0x0000, 0x3fff, bit8, "low", func(v int) int { return orOne(v % 16) }},
	{2, 0x0000, 0x3fff, noBit8, "on", lowHalfTen},
	{3, 0x0000, 0x1fff, nil, "on", lowHalfTen},
	{3, 0x2000, 0x3fff, nil, "low", func(v int) int { return orOne(v % 128) }},
	{3, 0x4000, 0x5fff, nil, "pick", func(v int) int { return v % 16 }},
	{5, 0x0000, 0x1fff, nil, "on", wholeTen},
	{5, 0x2000, 0x2fff, nil, "low", func(v int) int { return v }},
	{5, 0x3000, 0x3fff, nil, "high", func(v int) int { return v % 2 }},
	{5, 0x4000, 0x5fff, nil, "pick", func(v int) int { return v % 16 }},
}

func lowHalfTen(v int) int { return wholeTen(v % 16) }

func wholeTen(v int) int {
	if v == 10 {
		return 1
	}
	return 0
}

func orOne(v int) int {
	if v == 0 {
		return 1
	}
	return v
}

func bit8(addr int) bool   { return addr/256%2 == 1 }
func noBit8(addr int) bool { return addr/256%2 == 0 }

// model is a cartridge as the chapter's tables tell it, its ROM and RAM cut into banks.
type model struct {
	mapper    int
	registers map[string]int
	rom, ram  [][]byte
}

// modelOf makes one; the lists become its own.
func modelOf(mapper int, rom, ram []byte) *model {
	m := &model{mapper: mapper, registers: map[string]int{}, rom: cut(rom, 16384), ram: cut(ram, 8192)}
	if mapper != 0 {
		m.registers["low"] = 1
	}
	return m
}

func cut(list []byte, size int) [][]byte {
	var banks [][]byte
	for len(list) > size {
		banks = append(banks, list[:size])
		list = list[size:]
	}
	if len(list) > 0 {
		banks = append(banks, list)
	}
	return banks
}

func (m *model) write(addr int, v byte) {
	for _, r := range rules {
		if r.mapper == m.mapper && r.from <= addr && addr <= r.to && (r.has == nil || r.has(addr)) {
			m.registers[r.register] = r.value(int(v))
		}
	}
	if at := m.seen(addr); at != nil {
		*at = v
		if m.mapper == 2 {
			*at = v % 16
		}
	}
}

func (m *model) read(addr int) byte {
	switch {
	case 0 <= addr && addr <= 0x3fff:
		return m.rom[m.first()%len(m.rom)][addr]
	case 0x4000 <= addr && addr <= 0x7fff:
		return m.rom[m.second()%len(m.rom)][addr-0x4000]
	}
	at := m.seen(addr)
	switch {
	case at == nil:
		return 255
	case m.mapper == 2:
		return 240 + *at
	}
	return *at
}

func (m *model) first() int {
	if m.mapper == 1 && m.registers["mode"] == 1 {
		return 32 * m.registers["pick"]
	}
	return 0
}

func (m *model) second() int {
	switch m.mapper {
	case 0:
		return 1
	case 1:
		return m.registers["low"] + 32*m.registers["pick"]
	case 5:
		return m.registers["low"] + 256*m.registers["high"]
	}
	return m.registers["low"]
}

// seen is the byte of RAM at an address, or nil.
func (m *model) seen(addr int) *byte {
	if addr < 0xa000 || addr > 0xbfff || len(m.ram) == 0 || m.mapper != 0 && m.registers["on"] == 0 {
		return nil
	}
	if m.mapper == 2 {
		return &m.ram[0][addr%512]
	}
	bank := 0
	switch {
	case m.mapper == 3 && m.registers["pick"] > 3:
		return nil
	case m.mapper == 1 && m.registers["mode"] == 1, m.mapper == 3, m.mapper == 5:
		bank = m.registers["pick"]
	}
	return &m.ram[bank%len(m.ram)][addr-0xa000]
}

func (m *model) state() []byte {
	var state []byte
	for _, name := range []string{"on", "low", "high", "pick", "mode"} {
		state = append(state, byte(m.registers[name]))
	}
	for _, bank := range m.ram {
		state = append(state, bank...)
	}
	return state
}

// header is what Check should tell of a ROM that label has labelled, and that has as many bytes as size says.
func header(kind, code, ram byte, size int) (api.Header, api.Errno) {
	for _, s := range sorts {
		if s.kind != kind {
			continue
		}
		if code > 6 || 2<<code > s.banks || 32768<<code != size {
			return api.Header{}, api.ErrCartRom
		}
		for _, c := range s.codes {
			if c == ram {
				return api.Header{Title: "GAME", Type: int(kind), Mapper: s.mapper, Banks: 2 << code, Ram: s.ramSize(ram), Battery: s.battery}, api.OK
			}
		}
		return api.Header{}, api.ErrCartRam
	}
	return api.Header{}, api.ErrCartType
}
