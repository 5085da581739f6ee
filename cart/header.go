package cart

import (
	"bytes"

	"arcade/api"
)

// Where the header has what.
const (
	markAt    = 0x104
	titleAt   = 0x134
	modelAt   = 0x143
	typeAt    = 0x147
	romCodeAt = 0x148
	ramCodeAt = 0x149
	sumAt     = 0x14d
)

// Its bounds, and numbers of its own.
const (
	leastRom    = 32768
	mostRom     = 2097152
	mostRomCode = 6
	otherModel  = 0xc0 // of another machine
	sumStart    = 231
	halfBytes   = 512 // of RAM, of mapper 2
)

// row is what cartridges of a type may be: banks of ROM at most, the RAM's codes from and up to.
type row struct {
	kind     byte
	mapper   int
	banks    int
	from, to byte
	battery  bool
}

var rows = [...]row{
	{0x00, api.MapperNone, 2, 0, 0, false},
	{0x08, api.MapperNone, 2, 2, 2, false},
	{0x09, api.MapperNone, 2, 2, 2, true},
	{0x01, api.Mapper1, 128, 0, 0, false},
	{0x02, api.Mapper1, 128, 2, 3, false},
	{0x03, api.Mapper1, 128, 2, 3, true},
	{0x05, api.Mapper2, 16, 0, 0, false},
	{0x06, api.Mapper2, 16, 0, 0, true},
	{0x11, api.Mapper3, 128, 0, 0, false},
	{0x12, api.Mapper3, 128, 2, 3, false},
	{0x13, api.Mapper3, 128, 2, 3, true},
	{0x19, api.Mapper5, 128, 0, 0, false},
	{0x1a, api.Mapper5, 128, 2, 5, false},
	{0x1b, api.Mapper5, 128, 2, 5, true},
}

// ramSizes are the bytes of RAM by its code; no row has the code 1.
var ramSizes = [...]int{0, 0, 8192, 32768, 131072, 65536}

// Check reads a header.
func Check(rom []byte) (api.Header, api.Errno) {
	if len(rom) < leastRom || len(rom) > mostRom {
		return api.Header{}, api.ErrCartLength
	}
	r, known := rowOf(rom[typeAt])
	if e := fault(rom, r, known); e != api.OK {
		return api.Header{}, e
	}
	return api.Header{
		Title:   title(rom),
		Type:    int(r.kind),
		Mapper:  r.mapper,
		Banks:   banksOf(rom[romCodeAt]),
		Ram:     r.ram(rom[ramCodeAt]),
		Battery: r.battery,
	}, api.OK
}

// fault tells the first thing that is wrong with a ROM that is long enough for a header.
func fault(rom []byte, r row, known bool) api.Errno {
	switch {
	case !marked(rom):
		return api.ErrCartMark
	case rom[sumAt] != sum(rom):
		return api.ErrCartSum
	case rom[modelAt] == otherModel:
		return api.ErrCartModel
	case !known:
		return api.ErrCartType
	case !r.takesRom(rom[romCodeAt], len(rom)):
		return api.ErrCartRom
	case rom[ramCodeAt] < r.from || rom[ramCodeAt] > r.to:
		return api.ErrCartRam
	}
	return api.OK
}

func rowOf(kind byte) (row, bool) {
	for _, r := range rows {
		if r.kind == kind {
			return r, true
		}
	}
	return row{}, false
}

func (r row) takesRom(code byte, size int) bool {
	return code <= mostRomCode && banksOf(code) <= r.banks && banksOf(code)*api.BankSize == size
}

// ram tells the bytes of RAM. That of mapper 2 is its own, and has no code.
func (r row) ram(code byte) int {
	if r.mapper == api.Mapper2 {
		return halfBytes
	}
	return ramSizes[code]
}

func banksOf(code byte) int {
	return 2 << code
}

func marked(rom []byte) bool {
	for i, b := range rom[markAt:titleAt] {
		if b != byte(7*i*i+13*i+206) {
			return false
		}
	}
	return true
}

func sum(rom []byte) byte {
	s := byte(sumStart)
	for _, b := range rom[titleAt:sumAt] {
		s -= b
	}
	return s
}

func title(rom []byte) string {
	t, _, _ := bytes.Cut(rom[titleAt:modelAt], []byte{0})
	return string(t)
}
