package cart_test

import (
	"slices"
	"strings"
	"testing"

	"arcade/api"
	"arcade/cart"
)

// refused tells of a ROM that is not refused as it should be.
func refused(t *testing.T, what string, rom []byte, want api.Errno) {
	t.Helper()
	if h, e := cart.Check(rom); e != want || h != (api.Header{}) {
		t.Errorf("D1: %s: %+v, %d, want %d and nothing else", what, h, e, want)
	}
}

// TestD1Headers: cartridges that are written out.
func TestD1Headers(t *testing.T) {
	bare := make([]byte, 32768)
	copy(bare[0x104:], []byte{0xce, 0xe2, 0x04, 0x34})
	for i := 4; i < 48; i++ {
		bare[0x104+i] = byte(206 + i*(13+7*i))
	}
	bare[0x14d] = 231
	if h, e := cart.Check(bare); e != api.OK || h != (api.Header{Banks: 2}) {
		t.Errorf("D1: all 0 but for the mark: %+v, %d", h, e)
	}
	for _, c := range []struct {
		kind, code, ram byte
		want            api.Header
	}{
		{0x00, 0, 0, api.Header{Title: "GAME", Type: 0, Mapper: api.MapperNone, Banks: 2}},
		{0x09, 0, 2, api.Header{Title: "GAME", Type: 9, Mapper: api.MapperNone, Banks: 2, Ram: 8192, Battery: true}},
		{0x01, 5, 0, api.Header{Title: "GAME", Type: 1, Mapper: api.Mapper1, Banks: 64}},
		{0x02, 6, 2, api.Header{Title: "GAME", Type: 2, Mapper: api.Mapper1, Banks: 128, Ram: 8192}},
		{0x03, 1, 3, api.Header{Title: "GAME", Type: 3, Mapper: api.Mapper1, Banks: 4, Ram: 32768, Battery: true}},
		{0x06, 3, 0, api.Header{Title: "GAME", Type: 6, Mapper: api.Mapper2, Banks: 16, Ram: 512, Battery: true}},
		{0x13, 4, 3, api.Header{Title: "GAME", Type: 19, Mapper: api.Mapper3, Banks: 32, Ram: 32768, Battery: true}},
		{0x1a, 2, 5, api.Header{Title: "GAME", Type: 26, Mapper: api.Mapper5, Banks: 8, Ram: 65536}},
		{0x1b, 6, 4, api.Header{Title: "GAME", Type: 27, Mapper: api.Mapper5, Banks: 128, Ram: 131072, Battery: true}},
	} {
		if h, e := cart.Check(numbered(c.kind, c.code, c.ram)); e != api.OK || h != c.want {
			t.Errorf("D1: type %02x, codes %d and %d: %+v, %d, want %+v", c.kind, c.code, c.ram, h, e, c.want)
		}
	}
}

// TestD1Tables: all types with ROMs of all sizes and many codes, known ones with all codes, held against the chapter's tables.
func TestD1Tables(t *testing.T) {
	few := []byte{0, 1, 2, 3, 4, 5, 6, 7, 8, 31, 62, 63, 64, 127, 128, 255}
	for size := byte(0); size <= 6; size++ {
		rom := make([]byte, 32768<<size)
		try := func(kind, code, ram byte) {
			want, wrong := header(kind, code, ram, len(rom))
			if h, e := cart.Check(label(rom, kind, code, ram)); h != want || e != wrong {
				t.Fatalf("D1: type %02x, codes %d and %d, %d bytes: %+v, %d, want %+v, %d", kind, code, ram, len(rom), h, e, want, wrong)
			}
		}
		for kind := range 256 {
			for _, code := range few {
				for _, ram := range few {
					try(byte(kind), code, ram)
				}
			}
		}
		for _, s := range sorts {
			for i := range 256 {
				try(s.kind, byte(i), s.codes[0])
				try(s.kind, size, byte(i))
			}
		}
	}
}

// TestD1Length: the fewest and the most bytes, and all that are too few for a header.
func TestD1Length(t *testing.T) {
	long := append(numbered(1, 6, 0), 0, 0)
	for _, c := range []struct {
		size int
		code byte
		want api.Errno
	}{
		{32767, 0, api.ErrCartLength}, {32769, 0, api.ErrCartRom}, {32768, 1, api.ErrCartRom}, {49152, 0, api.ErrCartRom}, {49152, 1, api.ErrCartRom}, {65535, 1, api.ErrCartRom}, {65537, 1, api.ErrCartRom}, {65536, 0, api.ErrCartRom}, {65536, 2, api.ErrCartRom},
		{2097151, 6, api.ErrCartRom}, {2097152, 5, api.ErrCartRom}, {2097152, 7, api.ErrCartRom}, {2097152, 6 + 64, api.ErrCartRom}, {2097153, 6, api.ErrCartLength}, {2097154, 6, api.ErrCartLength},
	} {
		label(long, 1, c.code, 0)
		refused(t, "the wrong length", long[:c.size], c.want)
	}
	for _, c := range []struct {
		size int
		code byte
	}{{32768, 0}, {65536, 1}, {2097152, 6}} {
		label(long, 1, c.code, 0)
		if h, e := cart.Check(long[:c.size]); e != api.OK || h.Banks != 2<<c.code {
			t.Errorf("D1: %d bytes: %+v, %d", c.size, h, e)
		}
	}
	label(long, 0, 0, 0)
	for size := range 0x160 {
		refused(t, "too few bytes", long[:size], api.ErrCartLength)
	}
	refused(t, "no bytes", nil, api.ErrCartLength)
	refused(t, "twice as many bytes", make([]byte, 4194304), api.ErrCartLength)
}

// TestD1Changed: a header of which one byte of the mark, of the sum, or of what is summed is another one.
func TestD1Changed(t *testing.T) {
	rom := numbered(3, 1, 3)
	for at := 0x100; at <= 0x152; at++ {
		want := api.OK
		switch {
		case at >= 0x104 && at <= 0x133:
			want = api.ErrCartMark
		case at >= 0x134 && at <= 0x14d:
			want = api.ErrCartSum
		}
		was := rom[at]
		for by := range 255 {
			rom[at] = was + byte(by) + 1
			if h, e := cart.Check(rom); e != want || (e != api.OK) != (h == api.Header{}) {
				t.Fatalf("D1: with %02x at %04x: %+v, %d, want %d", rom[at], at, h, e, want)
			}
		}
		rom[at] = was
	}
	rom[0x135], rom[0x14c] = rom[0x135]+9, rom[0x14c]-9
	if h, e := cart.Check(rom); e != api.OK || h.Title != "GJME" {
		t.Errorf("D1: two bytes changed, and the sum the same: %+v, %d", h, e)
	}
}

// TestD1Model: one model is of another machine.
func TestD1Model(t *testing.T) {
	rom := numbered(0, 0, 0)
	for model := range 256 {
		rom[0x143] = byte(model)
		want := api.OK
		if model == 0xc0 {
			want = api.ErrCartModel
		}
		if h, e := cart.Check(seal(rom)); e != want || e == api.OK && h.Title != "GAME" {
			t.Errorf("D1: model %02x: %+v, %d, want %d", model, h, e, want)
		}
	}
}

// TestD1Title: all bytes ahead of the first 0, whatever they are.
func TestD1Title(t *testing.T) {
	for _, c := range []struct{ bytes, want string }{
		{"", ""}, {"A", "A"}, {"\x00HIDDEN", ""}, {"TWO\x00WORDS", "TWO"}, {"FOURTEEN CHARS", "FOURTEEN CHARS"}, {"FIFTEEN LETTERS", "FIFTEEN LETTERS"}, {" a\n ", " a\n "}, {"\xff\x80\xc3", "\xff\x80\xc3"}, {"Spiel Ä\xff\x00", "Spiel Ä\xff"}, {strings.Repeat("\xfe", 15), strings.Repeat("\xfe", 15)},
	} {
		rom := numbered(0, 0, 0)
		clear(rom[0x134:0x143])
		copy(rom[0x134:], c.bytes)
		rom[0x143] = 'X'
		if h, e := cart.Check(seal(rom)); e != api.OK || h.Title != c.want {
			t.Errorf("D1: title %q: %q, %d, want %q", c.bytes, h.Title, e, c.want)
		}
	}
}

// TestD1Order: each set of faults, however many, is told by the first of them.
func TestD1Order(t *testing.T) {
	faults := []api.Errno{api.ErrCartLength, api.ErrCartMark, api.ErrCartSum, api.ErrCartModel, api.ErrCartType, api.ErrCartRom, api.ErrCartRam}
	for set := 1; set < 1<<len(faults); set++ {
		has := func(e api.Errno) bool { return set>>slices.Index(faults, e)&1 == 1 }
		kind, code, ram := byte(2), byte(0), byte(2)
		if has(api.ErrCartType) {
			kind = 4
		}
		if has(api.ErrCartRom) {
			code = 1
		}
		if has(api.ErrCartRam) {
			ram = 4
		}
		rom := label(numbered(2, 0, 2), kind, code, ram)
		if has(api.ErrCartModel) {
			rom[0x143] = 0xc0
		}
		seal(rom)
		if has(api.ErrCartSum) {
			rom[0x14d] ^= 128
		}
		if has(api.ErrCartMark) {
			rom[0x133]++
		}
		if has(api.ErrCartLength) {
			rom = rom[:32767]
		}
		first := slices.IndexFunc(faults, has)
		refused(t, "many faults", rom, faults[first])
		if c, e := cart.New(rom, []byte{1}); c != nil || e != faults[first] {
			t.Errorf("D2: New with the faults %07b and a wrong save: %v, %d, want %d", set, c != nil, e, faults[first])
		}
	}
}

// TestD1Calm: what is checked stays as it is, and it may be anything.
func TestD1Calm(t *testing.T) {
	for _, rom := range [][]byte{numbered(3, 0, 3), mixed(0x1b, 2, 4), make([]byte, 32768), make([]byte, 40)} {
		was := slices.Clone(rom)
		given := roomy(rom)
		h, e := cart.Check(given)
		if !spared(given, was) {
			t.Error("D1: Check changed the ROM")
		}
		if i, f := cart.Check(given); i != h || f != e {
			t.Errorf("D1: Check again: %+v, %d, want %+v, %d", i, f, h, e)
		}
	}
}
