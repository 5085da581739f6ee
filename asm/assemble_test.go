package asm_test

import (
	"bytes"
	"fmt"
	"math/rand"
	"slices"
	"strings"
	"testing"

	"arcade/api"
	"arcade/asm"
)

type imageCase struct {
	source string
	org    int
	code   string // bytes to the base 16
}

func checkImages(t *testing.T, promise string, cases []imageCase) {
	t.Helper()
	for _, c := range cases {
		m, line, e := asm.Assemble(c.source)
		if got := fmt.Sprintf("% x", m.Code); m.Org != c.org || got != c.code || line != 0 || e != api.OK {
			t.Errorf("%s: Assemble(%q) = org %d, %s, line %d, error %d, want org %d, %s", promise, c.source, m.Org, got, line, e, c.org, c.code)
		}
	}
}

func TestP22AssembleStatements(t *testing.T) {
	checkImages(t, "P2.2", []imageCase{
		{"", 0, ""}, {"\n\n", 0, ""}, {";", 0, ""}, {"x:", 0, ""}, {"org 5", 0, ""}, {"org 5\nx: ds 0\ndb \"\"", 0, ""}, {"x equ 5", 0, ""},
		{"org $150\nloop: dec a\n jr nz, loop\n.end: db \"Hi\", high(loop.end)", 336, "3d 20 fd 48 69 01"},
		{"org $200\nld a, 20\nadd a, 22\nhalt", 512, "3e 14 c6 16 76"},
		{"db 1,2 , 3", 0, "01 02 03"}, {"db -128, 255, -1", 0, "80 ff ff"}, {"db \"a;b'\", ';', '\"' ; \"", 0, "61 3b 62 27 3b 22"}, {"db\"x\",\"\",\"y\"", 0, "78 79"}, {"db 1, \"a\" ,\t\"b\"", 0, "01 61 62"}, {"db \"a\";b\ndb \"\";c\ndb \"\", \";\" ; d\ndb 'a';e", 0, "61 3b 61"}, {"db \"\" ; \"\ndb ';';\ndb ';', ';';'", 0, "3b 3b 3b"}, {"db \"\xff\xc3\xa9\x00\t\"", 0, "ff c3 a9 00 09"}, {"db '\xff'", 0, "ff"},
		{"dw 1, -2, $1234, 65535, -32768", 0, "01 00 fe ff 34 12 ff ff 00 80"},
		{"ds 3", 0, "00 00 00"}, {"ds 2, 7\nds 1 , -1", 0, "07 07 ff"}, {"ds 0, 1\nnop", 0, "00"}, {"ds 2, 200", 0, "c8 c8"},
		{"nop\norg 4\nnop\norg 6", 0, "00 00 00 00 00 00"}, {"org 9\norg 4\ndb 1", 4, "01"}, {"org 9\nds 0\norg 4\ndb 1", 4, "01"}, {"org 4\ndb 1\norg 5\ndb 2", 4, "01 02"}, {"org 4\ndb 1\norg 4+1", 4, "01"}, {"db 1\norg @ + 1\ndb 2", 0, "01 00 02"},
		{"stop", 0, "10 00"}, {"rst 8\nrst $38\nrst 0", 0, "cf ff c7"}, {"bit 7, [hl]\nset 2+1, a\nres 0,b", 0, "cb 7e cb df cb 80"}, {"ldh [$ff44], a\nldh a, [65280+1]", 0, "e0 44 f0 01"}, {"ldh [c], a\nldh a, [c]", 0, "e2 f2"},
		{"ld a,[ hl + ]\nld [\thl - ] , a\nadd sp,-1\nld hl,sp + 3\nld hl, sp+-128", 0, "2a 32 e8 ff f8 03 f8 80"}, {"ld a, -128\nld [hl], 255\nld bc, -1\nld [65535], sp", 0, "3e 80 36 ff 01 ff ff 08 ff ff"},
		{"jp(5)\njp hl\njp c, 1\njp nc,%1\ncall$102\nld[hl],a\nld a,[(1+2)]\nld a, (3)", 0, "c3 05 00 e9 da 01 00 d2 01 00 cd 02 01 77 fa 03 00 3e 03"},
		{"\t x\t:\tnop\t;\tc", 0, "00"}, {"x:nop", 0, "00"}, {"x equ%11\ny equ(x)\nz1 equ-1\ndb x,y,z1", 0, "03 03 ff"},
	})
}

func TestP22AssembleNames(t *testing.T) {
	checkImages(t, "P2.2", []imageCase{
		{"jp x\nx equ 5\njr @\n", 0, "c3 05 00 18 fe"}, {"x: jp x\ny: jp x", 0, "c3 00 00 c3 00 00"}, {"dw y\ny: dw y", 0, "02 00 02 00"}, {"x: ds 1, x\ndb x", 0, "00 00"},
		{"a1:\n.b: jr a2.b\na2:\n.b: jr .b\n", 0, "18 00 18 fe"}, {"x: jr .y\n.y: db .y - x", 0, "18 00 02"}, {"x:\ny equ 3\n.z: db .z+1, x.z+2, y", 0, "01 02 03"}, {"org 2\nx:\n.nop: db .nop, x.nop\n.x: db x.x", 2, "02 02 04"},
		{"A equ 1\nNOP equ 2\nn equ 3\ns equ 4\nw equ 5\n_ equ 6\nHL: db A, NOP, n, s, w, _, HL", 0, "01 02 03 04 05 06 00"}, {"Ld: db Ld", 0, "00"}, {"ld_: nop\nb1: db b1\nequ1: db equ1", 0, "00 01 02"},
		{"abcdefghijklmnop: db 1\n.abcdefghijklmnop: db abcdefghijklmnop.abcdefghijklmnop", 0, "01 01"},
		{"x: org 5\ny: db x, y", 5, "00 05"}, {"db 1\nx: org 5\ndb x", 0, "01 00 00 00 00 01"}, {"org 5\ndb 1, @, @", 5, "01 05 05"}, {"x equ @\norg 7\ny equ @ + x\ndb y", 7, "07"},
		{"n equ 3\nds n\nx:\nds x - 1, 1\ndb 9", 0, "00 00 00 01 01 09"}, {"x:\n.y:\nds .y+1\norg x.y + 3\ndb 5", 0, "00 00 00 05"}, {"org 65535\ndb 1\nx:\ny equ x - 65536\ndb \"\"\nds 0, y", 65535, "01"},
		{"x: ld a, high(x) + low(y)\ny:", 0, "3e 02"}, {"x equ 1<<30\ndb x >> 30", 0, "01"}, {"db ';' ; ';\ndb \"';\" ; \"", 0, "3b 27 3b"},
	})
}

func TestP22AssembleReach(t *testing.T) {
	checkImages(t, "P2.2", []imageCase{
		{"ds 126\nx: jr x - 126", 0, strings.Repeat("00 ", 126) + "18 80"}, {"jr 129", 0, "18 7f"}, {"jr @+2", 0, "18 00"},
		{"org 65534\njr 0", 65534, "18 00"}, {"org 65534\njr 127", 65534, "18 7f"}, {"jr 65410", 0, "18 80"}, {"org 1\njr nz, 65535", 1, "20 fc"}, {"org 65534\njr c, 65408", 65534, "38 80"},
	})
	checkErrors(t, "P2.2", []errorCase{
		{"ds 127\nx: jr x - 127", 2, 27}, {"jr 130", 1, 27}, {"jr 65409", 1, 27}, {"org 65534\njr 128", 2, 27}, {"org 65534\njr 65407", 2, 27}, {"jr 32768", 1, 27}, {"jr -1", 1, 26}, {"jr 65536", 1, 26}, {"jr z, -126", 1, 26}, {"org 65534\njr 65536", 2, 26},
	})
}

type errorCase struct {
	source string
	line   int
	e      api.Errno
}

func checkErrors(t *testing.T, promise string, cases []errorCase) {
	t.Helper()
	for _, c := range cases {
		m, line, e := asm.Assemble(c.source)
		if len(m.Code) != 0 || m.Org != 0 || line != c.line || e != c.e {
			t.Errorf("%s: Assemble(%.60q) = org %d, %d bytes, line %d, error %d, want line %d, error %d", promise, c.source, m.Org, len(m.Code), line, e, c.line, c.e)
		}
		names, line, e := asm.Names(c.source)
		if len(names) != 0 || line != c.line || e != c.e {
			t.Errorf("%s: Names(%.60q) = %v, line %d, error %d, want line %d, error %d", promise, c.source, names, line, e, c.line, c.e)
		}
	}
}

func TestP22AssembleNoLines(t *testing.T) {
	for _, line := range []string{
		"nop nop", "nop,", "ld a", "ld a,", "ld , a", "ld a b", "ld a, b,", "ld a, b, c", "LD a, b", "Nop", "a: nop", "nop:", "hl:", "equ: nop", "x", "x y", "x equ", "x equ 1 2", "x equ 1,2", "x: equ 1", "x: y equ 1", ".x equ 1", "x.y equ 1", "a equ 1", "equ 1", "x equ hl", "xequ 1", "x equ1", "5", "5 equ 1", "1x:", "-", ":", ".", ".:", ". x:", ".1:", "x.y:", "x. y:", "x . y: nop", "x::", "x: :", "x: y:", "x: .y:", ".x: y:", "x: y: nop",
		"org", "org 1, 2", "org \"a\"", "db", "db ,", "db 1,", "db ,1", "db 1 2", "db \"a", "db a", "db \"a\" \"b\"", "db \"a\"+1", "db 1+\"a\"", "db 'a", "db ''", "db 'ab'", "db '''", "dw", "dw \"ab\"", "dw 1,", "ds", "ds 1,", "ds 1, 2, 3", "ds \"a\"", "ds ,1", "high(1)", "low 1", "dbx 1", "db1", "ds5",
		"ld a, [hl++]", "ld a, [hl+1]", "ld a, [hl", "ld a, hl]", "ld a, [[hl]]", "ld a, []", "ld a, [c]", "ld [bc+], a", "ld a, [sp]", "jp [hl]", "jp bc", "jp c", "jr c", "jr hl", "jr po, 1", "add b", "add a", "add 5", "add hl, 5", "add hl, af", "sub 5", "ld sp, 5+hl", "ld hl, sp", "ld hl, sp-5", "ld hl, sp+", "ld hl, sp++5", "ld hl, 5+sp", "ld hl, +5", "add sp, sp", "push sp", "pop sp", "push 5", "inc 5", "inc [bc]", "ld [5], b", "ld [5], 5", "ld b, [5]", "ld [hl], [hl]", "ld bc, de", "ldh [c], b", "ldh a, [hl]", "ldh [n], b", "ldh a, 5", "ldd a, [hl]", "ldi a, [hl]", "rst", "rst hl", "rst 8, 8", "bit a", "bit 5", "bit a, 5", "bit 5, 5", "bit 5, hl", "swap 5", "ret 5", "ret a", "reti nz", "call hl", "halt 0", "stop 0", "ld a, b + 1", "ld a, b - 1", "and b", "cp a", "ld e", "set 1, 2, b", "nop.x", "nop\r", "nop\v", "nop\x00", "nop é", "é: nop", "nop #", "ld a, #", "ld #, a", "ld a, 5 $", "ld a, [5", "ld a, 5]", "ld a, (5", "ld a, (b)", "ld a, x.", "ld a, x. y", "ld a, x .y", "ld a, .", "ld a, . x", "ld a, x.y.z", "ld a, .1", "ld a, a.x", "ld a, 1.x", "ld a, 1 < 2", "ld a, $", "ld a, % 1", "ld a, %2", "ld a, \"b\"",
		"abcdefghijklmnopq: nop", ".abcdefghijklmnopq: nop", "ld a, abcdefghijklmnopq", "ld a, x.abcdefghijklmnopq", "x equ abcdefghijklmnopq", "abcdefghijklmnopq equ 1", "nopnopnopnopnopnop",
		"db " + strings.Repeat("(", 21) + "1" + strings.Repeat(")", 21), "ld a, high(" + strings.Repeat("(", 20) + "1" + strings.Repeat(")", 21), "x equ " + strings.Repeat("(", 21) + "zz/0" + strings.Repeat(")", 21),
	} {
		checkErrors(t, "P2.2", []errorCase{{line, 1, 23}, {"nop\n\n" + line + " ; nop\nnop", 3, 23}})
	}
	twenty := strings.Repeat("(", 20) + "1" + strings.Repeat(")", 20)
	checkImages(t, "P2.2", []imageCase{{"ld a, [" + twenty + "]\ndb " + twenty + ", " + twenty, 0, "fa 01 00 01 01"}, {"nop ; x\r", 0, "00"}})
}

func TestP22AssembleErrors(t *testing.T) {
	checkErrors(t, "P2.2", []errorCase{
		{"x:\nx:", 2, 25}, {"x:\nx equ 1", 2, 25}, {"x equ 1\nx:", 2, 25}, {"x equ 1\nx equ 1", 2, 25}, {"x:\n.y:\n.y:", 3, 25}, {"x:\n.y:\nz1:\n.y:\nx:", 5, 25},
		{".x: nop", 1, 24}, {"x equ 1\n.y:", 2, 24}, {"db .x", 1, 24}, {"db .x\nx:\n.x:", 1, 24}, {"x equ y\ny equ 1", 1, 24}, {"x equ x", 1, 24}, {"x: ds x", 1, 24}, {"x: org x", 1, 24}, {"org y", 1, 24}, {"ds y\ny:", 1, 24}, {"x:\n.y: ds .y", 2, 24}, {"x: ds .y\n.y:", 1, 24}, {"jr y", 1, 24}, {"x:\ny:\n.z:\ndb x.z", 4, 24}, {"x equ 1\ny:\n.z: db x.z", 3, 24}, {"db X\nx:", 1, 24},
		{"nop\norg 0", 2, 28}, {"ds 5\norg 4", 2, 28}, {"org 65535\nnop\norg 65535", 3, 28}, {"org 5\nnop\norg 5", 3, 28},
		{"org 65536", 1, 26}, {"org -1", 1, 26}, {"ds 65536", 1, 26}, {"ds -1", 1, 26}, {"x equ 1/0", 1, 26}, {"x equ 2147483648", 1, 26}, {"nop\norg 65536", 2, 26}, {"ds 1<<40", 1, 26},
		{"db 256", 1, 26}, {"db -129", 1, 26}, {"ds 1, 256", 1, 26}, {"ds 0, 256", 1, 26}, {"ds 1, -129", 1, 26}, {"dw 65536", 1, 26}, {"dw -32769", 1, 26}, {"ld a, 256", 1, 26}, {"ld a, -129", 1, 26}, {"cp a, 256", 1, 26}, {"add sp, 128", 1, 26}, {"add sp, -129", 1, 26}, {"ld hl, sp+128", 1, 26}, {"ld bc, 65536", 1, 26}, {"ld bc, -32769", 1, 26}, {"jp 65536", 1, 26}, {"ld [65536], a", 1, 26}, {"ldh a, [5]", 1, 26}, {"ldh a, [65279]", 1, 26}, {"ldh [65536], a", 1, 26}, {"ldh [-1], a", 1, 26}, {"rst 9", 1, 26}, {"rst 64", 1, 26}, {"rst -8", 1, 26}, {"rst 4", 1, 26}, {"bit 8, a", 1, 26}, {"bit -1, a", 1, 26}, {"set 8, [hl]", 1, 26}, {"res 256, b", 1, 26},
		{"ds 32769", 1, 22}, {"ds 65535", 1, 22}, {"ds 32768\nnop", 2, 22}, {"ds 32767\ndw 1", 2, 22}, {"ds 32768\ndb \"a\"", 2, 22}, {"org 65535\ndw 1", 2, 22}, {"org 65535\nnop\nnop", 3, 22}, {"org 65535\njp 1", 2, 22}, {"org 65535\nds 2", 2, 22}, {"nop\norg 32769\n", 2, 22}, {"org 1\nnop\norg 32770", 3, 22}, {"ds 32768\norg 32769", 2, 22}, {"org 65534\ndb 1, 2, 3", 2, 22}, {"org 65535\ndb \"ab\"", 2, 22}, {"org 65535\nbit 1, a", 2, 22}, {"org 65535\nstop", 2, 22},
	})
	for _, c := range []struct {
		source string
		org    int
		n      int
	}{{"ds 32768", 0, 32768}, {"ds 32767\nnop", 0, 32768}, {"org 32768\nds 32768, 5", 32768, 32768}, {"nop\norg 32768", 0, 32768}, {"org 65533\njp 1", 65533, 3}, {"ds 32768\nds 0\ndb \"\"\norg 32768\nx:", 0, 32768}, {"org 65535\nnop\nds 0\nx:", 65535, 1}} {
		if m := mustAssemble(t, c.source); m.Org != c.org || len(m.Code) != c.n {
			t.Errorf("P2.2: Assemble(%q) = org %d, %d bytes, want org %d, %d bytes", c.source, m.Org, len(m.Code), c.org, c.n)
		}
	}
}

func TestP22AssembleLong(t *testing.T) {
	checkErrors(t, "P2.2", []errorCase{
		{strings.Repeat(" ", 16001), 0, 22}, {strings.Repeat("\n", 1001), 0, 22}, {strings.Repeat("\n", 1000) + " ", 0, 22}, {strings.Repeat("#\n", 1001), 0, 22}, {"#" + strings.Repeat(" ", 16000), 0, 22}, {strings.Repeat("é", 8000) + "1", 0, 22},
		{strings.Repeat("\n", 999) + "#", 1000, 23}, {strings.Repeat(" ", 15999) + "#", 1, 23}, {strings.Repeat("é", 8000), 1, 23},
	})
	for _, source := range []string{strings.Repeat(" ", 16000), strings.Repeat("\n", 1000), strings.Repeat("\n", 999) + " ", ";" + strings.Repeat("é", 7999) + "1", "x equ " + strings.Repeat("-", 15993) + "1", "x equ 1" + strings.Repeat("+1", 7996), "x equ " + strings.Repeat("0", 15994)} {
		if m := mustAssemble(t, source); m.Org != 0 || len(m.Code) != 0 {
			t.Errorf("P2.2: a source of nothing makes %d bytes", len(m.Code))
		}
	}
	long := "db \"" + strings.Repeat("a", 15995) + "\""
	if m := mustAssemble(t, long); string(m.Code) != strings.Repeat("a", 15995) {
		t.Errorf("P2.2: a text of 15995 bytes makes %d", len(m.Code))
	}
	many := "db 1" + strings.Repeat(",1", 7998)
	if m := mustAssemble(t, many); !bytes.Equal(m.Code, bytes.Repeat([]byte{1}, 7999)) {
		t.Errorf("P2.2: 7999 numbers make %d bytes", len(m.Code))
	}
}

func TestP21AssembleOrder(t *testing.T) {
	checkErrors(t, "P2.1", []errorCase{
		{"x equ y\nld a", 1, 24}, {"jr y\nld a", 2, 23}, {"db 256\norg zz", 2, 24}, {"db 1/0\nx:\nx:", 3, 25}, {"db 256\nds 32768", 2, 22}, {"jr 300\nx:\n#", 3, 23},
		{".x: ld a", 1, 23}, {".x: ds zz", 1, 24}, {"x:\nx: ds zz", 2, 25}, {"x:\nx: ds 65536", 2, 25}, {"x:\nx equ zz", 2, 25}, {"nop\norg 65536", 2, 26}, {"nop\norg -1", 2, 26}, {"nop\norg zz + 65536", 2, 24}, {"nop\norg 65536 / 0", 2, 26}, {"nop\norg 0 + zz", 2, 24}, {"ds 40000, zz", 1, 22}, {"ds zz, 1/0", 1, 24}, {"ds 1/0, zz", 1, 26}, {"ds 2, 1/0\ndb zz", 1, 26},
		{"db 1/0, zz", 1, 26}, {"db 256, zz", 1, 26}, {"db zz, 256", 1, 24}, {"db 1, 256, zz", 1, 26}, {"db 1\ndb zz\ndb 1/0", 2, 24}, {"db 1\ndb 1/0\ndb zz", 2, 26}, {"jr 300\ndb zz", 1, 27}, {"db zz\njr 300", 1, 24}, {"jr 1/0 + zz", 1, 26}, {"jr zz + 1/0", 1, 24}, {"jr 70000", 1, 26}, {"dw 1/0+zz", 1, 26}, {"dw (zz)+1/0", 1, 24}, {"db .x, 1/0", 1, 24}, {"x: ds 1, 999\nx:", 2, 25},
		{"ds 32768\nx: nop\nx:", 2, 22}, {"ds 32768\n.x: nop", 2, 24}, {"ds 32768\nx: nop\n", 2, 22}, {"x:\nds 32768\nx: nop", 3, 25}, {"ds 32768\nnop\n#", 2, 22}, {"ds 32768\nld a", 2, 23},
	})
}

func TestP22Names(t *testing.T) {
	for _, c := range []struct {
		source string
		want   string
	}{
		{"", ""}, {"nop", ""}, {"zz equ 5\nA: nop\n.b: nop\na1:\n", "A 0,A.b 1,a1 2,zz 5"},
		{"x: org 9\n.y: nop\nx_ equ -2147483647-1\nx1: ds 3\n.y:\nX:", "X 13,x 0,x.y 9,x1 10,x1.y 13,x_ -2147483648"},
		{"org 65535\nnop\nx:", "x 65536"}, {"b1:\n.nop:\n.b:\n._:", "b1 0,b1._ 0,b1.b 0,b1.nop 0"}, {"_ equ 1\n__ equ 2\nZ equ 3\nz1 equ 4\nz0 equ 5", "Z 3,_ 1,__ 2,z0 5,z1 4"},
	} {
		names, line, e := asm.Names(c.source)
		if got := strings.Join(nameList(names), ","); got != c.want || line != 0 || e != api.OK {
			t.Errorf("P2.2: Names(%q) = %s, line %d, error %d, want %s", c.source, got, line, e, c.want)
		}
	}
}

// lineSoup are lines, right and wrong ones, that have to do with each other.
var lineSoup = []string{
	"", " ", "; c", "nop", "x:", "y:", "z1: nop", ".p:", ".q: nop", "x: nop", ".p: jr .p", "jr x", "jr x.p", "jr nz, .q", "db 1, 2", "db x, y", "db \"ab;c\", 3 ; d", "dw x, y.p, @", "ds 2", "ds 3, y", "ds k", "ds x", "org 10", "org @", "org x", "org k + 20", "k equ 4", "k equ x", "m equ k * 2 - 1", "m equ @", "x equ 1", "db high(y), low(@)", "ld a, k", "ld hl, sp+k", "ld a, [y]", "ld [k], sp", "ldh [$ff00+k], a", "ldh a, [c]", "rst 8*k", "bit k, [hl]", "set 7, a", "call nz, y.q", "jp x", "jp hl", "add sp, -k", "db k / m", "ld a, [hl+]", "ld a,", "x equ", "db \"", "db 300", "org 3", "ds 30000", "ds 33000, 1", "org 65530", "org 32768", "db 'a'", "db ';', ''", "stop", "halt", "db .p - x", "db m", "z: nop", "Q: db Q", "dw -k", "dw 65536 - k", "k: nop",
}

// compareAssemble holds Assemble and Names against the second assembler.
func compareAssemble(t *testing.T, source string) {
	t.Helper()
	ref := newReference()
	wantLine, wantError := ref.assemble(source)
	m, line, e := asm.Assemble(source)
	if line != wantLine || e != wantError {
		t.Fatalf("P2.2: Assemble(%q): line %d, error %d, want line %d, error %d", source, line, e, wantLine, wantError)
	}
	names, line, e := asm.Names(source)
	if line != wantLine || e != wantError {
		t.Fatalf("P2.2: Names(%q): line %d, error %d, want line %d, error %d", source, line, e, wantLine, wantError)
	}
	want, wantNames := api.Image{}, []string(nil)
	if wantError == api.OK {
		want, wantNames = ref.image(), ref.list()
	}
	if m.Org != want.Org || !bytes.Equal(m.Code, want.Code) {
		t.Fatalf("P2.2: Assemble(%q) = %d, % x, want %d, % x", source, m.Org, m.Code, want.Org, want.Code)
	}
	if !slices.Equal(nameList(names), wantNames) {
		t.Fatalf("P2.2: Names(%q) = %v, want %v", source, names, wantNames)
	}
}

func TestP22AssembleRandom(t *testing.T) {
	for seed := range int64(8) {
		t.Run(fmt.Sprint(seed), func(t *testing.T) {
			t.Parallel()
			r := rand.New(rand.NewSource(100 + seed))
			for range 500 {
				compareAssemble(t, strings.Join(someLines(r), "\n"))
			}
		})
	}
}

func someLines(r *rand.Rand) []string {
	var lines []string
	for range 1 + r.Intn(10) {
		line := lineSoup[r.Intn(len(lineSoup))]
		if r.Intn(12) == 0 {
			line = spoiled(r, line)
		}
		lines = append(lines, line)
	}
	if r.Intn(3) > 0 {
		// Names that are there from the first line on let more of the others through.
		lines = append([]string{"k equ 4", "x: nop"}, lines...)
	}
	if r.Intn(2) > 0 {
		lines = append(lines, "y:", ".p:", ".q:", "m equ 7")
	}
	return lines
}

// spoiled is a line with one sign more, less, or another one.
func spoiled(r *rand.Rand, line string) string {
	signs := "abxy019$%'\"()[]:;,.+-*/~<>|^&@_ \t\r#\xff\xc3\x00"
	i := r.Intn(len(signs))
	sign := signs[i : i+1]
	at := r.Intn(len(line) + 1)
	switch r.Intn(3) {
	case 0:
		return line[:at] + sign + line[at:]
	case 1:
		return line[:at] + sign + line[min(at+1, len(line)):]
	}
	return line[:at] + line[min(at+1, len(line)):]
}

// TestP22AssembleSpoiled has each instruction with each sign of it left out, doubled or changed.
func TestP22AssembleSpoiled(t *testing.T) {
	t.Parallel()
	numbers := strings.NewReplacer("N", "5", "S", "-5", "E", "@+9", "W", "$1234", "H", "$ff05")
	seen := map[string]bool{}
	for code, o := range writtenOnce() {
		text := numbers.Replace(o.text)
		if code >= 72 && code < 184 && code%9 > 0 || code >= 264 && code%13 > 0 {
			continue
		}
		for at := range len(text) {
			for _, s := range []string{text[:at] + text[at+1:], text[:at+1] + text[at:], text[:at] + " " + text[at:], text[:at] + "," + text[at+1:], text[:at] + "a" + text[at+1:]} {
				seen[s] = true
			}
		}
	}
	for s := range seen {
		compareAssemble(t, s)
	}
}
