package asm_test

import (
	"fmt"
	"math/rand"
	"strings"
	"testing"

	"arcade/api"
	"arcade/asm"
)

func TestP22InfoAll(t *testing.T) {
	lower := strings.NewReplacer("N", "n", "S", "s", "E", "e", "W", "w", "H", "n")
	for code, o := range writtenOnce() {
		want, wantError := api.Op{Text: lower.Replace(o.text), Bytes: o.size(code), Cycles: o.cycles, Taken: o.taken}, api.OK
		if o.text == "" {
			want, wantError = api.Op{}, api.ErrAsmCode
		}
		if got, e := asm.Info(code%256, code >= 256); got != want || e != wantError {
			t.Errorf("P2.2: Info(%d, %v) = %+v, %d, want %+v, %d", code%256, code >= 256, got, e, want, wantError)
		}
	}
}

func TestP22InfoNone(t *testing.T) {
	for _, code := range []int{203, 211, 219, 221, 227, 228, 235, 236, 237, 244, 252, 253} {
		if o, e := asm.Info(code, false); o != (api.Op{}) || e != 21 {
			t.Errorf("P2.2: Info(%d, false) = %+v, %d, but it is none", code, o, e)
		}
		if o, e := asm.Info(code, true); o.Text == "" || e != api.OK {
			t.Errorf("P2.2: Info(%d, true) = %+v, %d, but the second table has it", code, o, e)
		}
	}
	for _, code := range farNumbers {
		for _, second := range []bool{false, true} {
			if o, e := asm.Info(code, second); o != (api.Op{}) || e != 1 {
				t.Errorf("P2.1: Info(%d, %v) = %+v, %d, want ErrArg", code, second, o, e)
			}
		}
	}
}

// wantIns is what Disasm must tell of bytes of which the first one lies at this address.
func wantIns(all *[512]opText, code []byte, address int) api.Ins {
	number := int(code[0])
	if number == 203 && len(code) > 1 {
		number = 256 + int(code[1])
	}
	o := all[number]
	if o.text == "" || o.size(number) > len(code) || o.text == "stop" && code[1] != 0 {
		return api.Ins{Text: fmt.Sprintf("db $%02x", code[0]), Bytes: 1}
	}
	ins := api.Ins{Text: o.text, Bytes: o.size(number), Cycles: o.cycles, Taken: o.taken}
	if number >= 256 {
		return ins
	}
	for _, letter := range "NSEWH" {
		at := strings.IndexRune(o.text, letter)
		if at < 0 {
			continue
		}
		var shown string
		switch letter {
		case 'N':
			shown = fmt.Sprintf("$%02x", code[1])
		case 'S':
			shown = fmt.Sprint(int8(code[1]))
		case 'E':
			shown = fmt.Sprintf("$%04x", uint16(address+2+int(int8(code[1]))))
		case 'W':
			shown = fmt.Sprintf("$%02x%02x", code[2], code[1])
		case 'H':
			shown = fmt.Sprintf("$ff%02x", code[1])
		}
		ins.Text = o.text[:at] + shown + o.text[at+1:]
	}
	return ins
}

func TestP22DisasmAll(t *testing.T) {
	all := writtenOnce()
	r := rand.New(rand.NewSource(1))
	for number := range 65536 {
		whole := []byte{byte(number), byte(number >> 8), byte(r.Intn(256)), byte(r.Intn(256))}
		for length := 1; length <= len(whole); length++ {
			code := whole[:length]
			for _, org := range []int{r.Intn(60000), 65536 - length} {
				if got, e := asm.Disasm(code, 0, org); got != wantIns(all, code, org) || e != api.OK {
					t.Fatalf("P2.2: Disasm(% x, 0, %d) = %+v, %d, want %+v", code, org, got, e, wantIns(all, code, org))
				}
			}
		}
	}
}

func TestP22DisasmPlaces(t *testing.T) {
	all := writtenOnce()
	r := rand.New(rand.NewSource(2))
	for range 300 {
		code := someBytes(r, 1+r.Intn(20))
		org := r.Intn(65537 - len(code))
		for at := range code {
			want := wantIns(all, code[at:], org+at)
			if got, e := asm.Disasm(code, at, org); got != want || e != api.OK {
				t.Fatalf("P2.2: Disasm(% x, %d, %d) = %+v, %d, want %+v", code, at, org, got, e, want)
			}
		}
	}
	for _, c := range []struct {
		code []byte
		at   int
		org  int
		want api.Ins
	}{
		{[]byte{24, 254}, 0, 336, api.Ins{Text: "jr $0150", Bytes: 2, Cycles: 12, Taken: 12}},
		{[]byte{16, 1}, 0, 0, api.Ins{Text: "db $10", Bytes: 1}},
		{[]byte{195, 0}, 0, 0, api.Ins{Text: "db $c3", Bytes: 1}},
		{[]byte{0, 24, 0x80}, 1, 0, api.Ins{Text: "jr $ff83", Bytes: 2, Cycles: 12, Taken: 12}},
		{[]byte{0, 0x38, 0x7f}, 1, 65533, api.Ins{Text: "jr c, $007f", Bytes: 2, Cycles: 8, Taken: 12}},
		{[]byte{0xf8, 0xff}, 0, 0, api.Ins{Text: "ld hl, sp+-1", Bytes: 2, Cycles: 12, Taken: 12}},
		{[]byte{0xcb}, 0, 0, api.Ins{Text: "db $cb", Bytes: 1}},
		{[]byte{0xcb, 0xcb}, 1, 0, api.Ins{Text: "db $cb", Bytes: 1}},
	} {
		if got, e := asm.Disasm(c.code, c.at, c.org); got != c.want || e != api.OK {
			t.Errorf("P2.2: Disasm(% x, %d, %d) = %+v, %d, want %+v", c.code, c.at, c.org, got, e, c.want)
		}
	}
}

func TestP24DisasmAsInfo(t *testing.T) {
	for number := range 512 {
		op, e := asm.Info(number%256, number >= 256)
		if e != api.OK {
			continue
		}
		code := []byte{byte(number), 0, 0}
		if number >= 256 {
			code = []byte{203, byte(number), 0}
		}
		ins, e := asm.Disasm(code, 0, 0)
		if e != api.OK || ins.Bytes != op.Bytes || ins.Cycles != op.Cycles || ins.Taken != op.Taken {
			t.Errorf("P2.4: of opcode %d Disasm tells %+v, Info %+v", number, ins, op)
		}
	}
}

func TestP21DisasmRefused(t *testing.T) {
	three := []byte{0, 1, 2}
	for _, c := range []struct {
		code    []byte
		at, org int
	}{
		{nil, 0, 0}, {[]byte{}, 0, 0}, {three, 3, 0}, {three, -1, 0}, {three, 0, -1}, {three, 0, 65536}, {three, 0, 65534}, {three, 0, 65535},
		{make([]byte, 65537), 0, 0}, {make([]byte, 65536), 0, 1}, {make([]byte, 65536), 65536, 0},
	} {
		if ins, e := asm.Disasm(c.code, c.at, c.org); ins != (api.Ins{}) || e != 1 {
			t.Errorf("P2.1: Disasm of %d bytes, %d, %d = %+v, %d, want ErrArg", len(c.code), c.at, c.org, ins, e)
		}
	}
	for _, far := range farNumbers {
		if ins, e := asm.Disasm(three, far, 0); ins != (api.Ins{}) || e != 1 {
			t.Errorf("P2.1: Disasm at %d = %+v, %d, want ErrArg", far, ins, e)
		}
		if far >= 0 && far < 65536 {
			continue
		}
		if ins, e := asm.Disasm(three, 0, far); ins != (api.Ins{}) || e != 1 {
			t.Errorf("P2.1: Disasm with org %d = %+v, %d, want ErrArg", far, ins, e)
		}
		if s, e := asm.Listing(three, far); s != "" || e != 1 {
			t.Errorf("P2.1: Listing with org %d = %q, %d, want ErrArg", far, s, e)
		}
	}
	for _, c := range []struct{ n, at, org int }{{3, 2, 65533}, {65536, 65535, 0}, {1, 0, 65535}} {
		if ins, e := asm.Disasm(make([]byte, c.n), c.at, c.org); ins.Text != "nop" || e != api.OK {
			t.Errorf("P2.2: Disasm of %d bytes, %d, %d = %+v, %d", c.n, c.at, c.org, ins, e)
		}
	}
}

func TestP22Listing(t *testing.T) {
	for _, c := range []struct {
		code []byte
		org  int
		want string
	}{
		{[]byte{62, 5, 224, 68}, 256, "org $0100\nld a, $05\nldh [$ff44], a\n"},
		{nil, 0, "org $0000\n"},
		{[]byte{}, 65535, "org $ffff\n"},
		{[]byte{0}, 65535, "org $ffff\nnop\n"},
		{[]byte{16, 1, 0xd3, 0xc3, 0xfc, 0x10}, 0xabc, "org $0abc\ndb $10\nld bc, $c3d3\ndb $fc\ndb $10\n"},
		{[]byte{0xcb, 0x7e, 0xcb}, 0, "org $0000\nbit 7, [hl]\ndb $cb\n"},
	} {
		if got, e := asm.Listing(c.code, c.org); got != c.want || e != api.OK {
			t.Errorf("P2.2: Listing(% x, %d) = %q, %d, want %q", c.code, c.org, got, e, c.want)
		}
	}
}

func TestP22ListingIsDisasm(t *testing.T) {
	all := writtenOnce()
	r := rand.New(rand.NewSource(3))
	for k := range 40 {
		code := someBytes(r, []int{1, 2, 3, 50, 4095, 4096}[k%6])
		org := []int{0, r.Intn(60000), 65536 - len(code)}[k%3]
		want := fmt.Sprintf("org $%04x\n", org)
		for at := 0; at < len(code); {
			ins := wantIns(all, code[at:], org+at)
			want += ins.Text + "\n"
			at += ins.Bytes
		}
		if got, e := asm.Listing(code, org); got != want || e != api.OK {
			t.Fatalf("P2.2: Listing of %d bytes at %d is not what Disasm tells: %d", len(code), org, e)
		}
	}
}

func TestP21ListingRefused(t *testing.T) {
	for _, c := range []struct {
		n, org int
		want   api.Errno
	}{
		{4096, 0, 0}, {4096, 61440, 0}, {4097, 0, 22}, {4097, 61439, 22}, {65536, 0, 22},
		{4096, 61441, 1}, {4097, 61440, 1}, {65537, 0, 1}, {4097, -1, 1}, {4097, 65536, 1}, {1, 65536, 1}, {0, 65536, 1}, {0, -1, 1},
	} {
		s, e := asm.Listing(make([]byte, c.n), c.org)
		if e != c.want || (s == "") != (e != 0) {
			t.Errorf("P2.1: Listing of %d bytes at %d: %d bytes, %d, want %d", c.n, c.org, len(s), e, c.want)
		}
	}
}
