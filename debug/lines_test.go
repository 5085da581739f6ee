package debug_test

import (
	"fmt"
	"strings"
	"testing"

	"arcade/api"
	"arcade/debug"
)

// The examples of the document.
func TestQ2Examples(t *testing.T) {
	t.Parallel()
	bytes := rom(t, 0, 0, 0)
	copy(bytes[0x100:], []byte{62, 5, 24, 254})
	b := made(t, bytes)
	d := newOf(t, b)
	says(t, d, "list $100 2", "$0100: ld a, $05\n$0102: jr $0102\n")
	goes(t, d, "step", "done", 2, "a=$05", "pc=$0102")
	says(t, d, "cycles", "2\n")
	says(t, d, "break $102 a > 4", "point 1\n")
	goes(t, d, "run 100", "point 1", 5)
	goes(t, d, "back 2", "done", 0, "pc=$0100")
	says(t, d, "cycles", "0\n")
	says(t, d, "mem $c000 3", "$c000: 00 00 00\n")
	refuses(t, d, b, api.ErrDebugNumber, "set a 256")
	refuses(t, d, b, api.ErrDebugText, "set q 1", "step x", "regs 1")
	refuses(t, d, b, api.ErrDebugBack, "back 1")
	quiet(t, d, "delete 1")
	refuses(t, d, b, api.ErrDebugPoint, "delete 1")
}

// A line has at most MaxLine bytes, whatever they are; blanks ahead, behind and between count for nothing else.
func TestQ2Length(t *testing.T) {
	t.Parallel()
	d, b := game(t)
	blanks := func(many int) string { return strings.Repeat(" ", many) }
	quiet(t, d, "", " ", blanks(99), blanks(100))
	want := strings.Replace(begin, "pc=$0100", "pc=$0150", 1)
	for _, line := range []string{"regs", " regs", "regs ", "   regs   ", blanks(96) + "regs", "regs" + blanks(96)} {
		says(t, d, line, want)
	}
	says(t, d, "mem"+blanks(45)+"$c000"+blanks(46)+"1", "$c000: 00\n")
	refuses(t, d, b, api.ErrDebugText, blanks(101), blanks(97)+"regs", "regs"+blanks(97), blanks(4000), strings.Repeat("x", 101), strings.Repeat("x", 100), strings.Repeat("1 ", 50))
	refuses(t, d, b, api.ErrDebugText, "mem 0 0"+blanks(94)) // ahead of its number
	refuses(t, d, b, api.ErrDebugNumber, "mem 0 0"+blanks(93))
}

// Words are cut at blanks alone; commands are written in small letters.
func TestQ2Words(t *testing.T) {
	t.Parallel()
	d, b := game(t)
	refuses(t, d, b, api.ErrDebugText, "regs\t", "\tregs", "\t", "\n", "regs\n", "\nregs", "regs\r", "regs\x00", "\x00", "\xff", "regs\u00a0", "\u00a0", "step\t1", "Regs", "REGS", "reg", "regss", "x", "1", "$1", "=", "a", "step1", "step,1", "step=1")
	for name := range forms {
		refuses(t, d, b, api.ErrDebugText, strings.ToUpper(name), name+"s 1", name[:len(name)-1]+" 1", name+" x", name+" 1 x", name+" 1 1 1 1 1 1")
	}
}

// Too few words, and too many.
func TestQ2HowMany(t *testing.T) {
	t.Parallel()
	d, b := game(t)
	right := []string{"regs", "set a 1", "mem 1", "mem 1 1", "poke 1 1", "list", "list 1", "list 1 1", "break 1", "break 1 a = 1", "watch 1", "delete 1", "points", "step", "step 1", "run 1", "over", "out", "until 1", "trace 1", "back 1", "press 1", "mark 1", "return 1", "sum", "sent", "cycles"}
	for _, line := range right {
		words := strings.Fields(line)
		for many := range len(words) + 3 {
			short := strings.Join(append(words, "1", "1")[:many], " ")
			if many == 0 || holdsForm(short) {
				continue
			}
			refuses(t, d, b, api.ErrDebugText, short)
		}
	}
}

// holdsForm tells whether a line is as some command's form.
func holdsForm(line string) bool {
	words := strings.Fields(line)
	for _, form := range forms[words[0]] {
		if kinds, _ := fits(words[1:], form); kinds {
			return true
		}
	}
	return false
}

// Numbers: one to six digits behind a $, one to seven without.
func TestQ2Numbers(t *testing.T) {
	t.Parallel()
	d, b := game(t)
	for text, want := range map[string]int{"0": 0, "7": 7, "$0": 0, "$7": 7, "$a": 10, "$F": 15, "$fF": 255, "$0000ff": 255, "$00FF": 255, "255": 255, "0000255": 255, "00": 0, "0000000": 0, "$000000": 0, "09": 9, "010": 10} {
		quiet(t, d, "poke $c000 1", "poke $c000 "+text)
		is(t, "poke of "+text, b.Peek(0xc000), want)
		quiet(t, d, "set a 1", "set a "+text)
		is(t, "set of "+text, b.Regs().A, want)
	}
	for _, command := range []string{"poke $c000 ", "poke ", "set a ", "set hl ", "set ime ", "mem ", "mem 0 ", "list ", "list 0 ", "break ", "break 0 a = ", "break 0 ime ! ", "watch ", "delete ", "step ", "run ", "until ", "trace ", "back ", "press ", "mark ", "return "} {
		behind := ""
		if command == "poke " {
			behind = " 1"
		}
		for _, word := range []string{"$", "$$1", "$g", "$1g", "$-1", "$+1", "-1", "+1", "-0", "1.", "1e1", "0x1", "1_0", "$1_0", "a", "ff", "1$", "#1", "%1", "'a'", "00000001", "12345678", "$1234567", "$0000001", "99999999999999999999", "$ffffffffffffffffffff", "１", "é", "\x00", "1\t", "1,"} {
			refuses(t, d, b, api.ErrDebugText, command+word+behind)
		}
		for _, word := range []string{"9999999", "$ffffff", "$FFFFFF"} {
			refuses(t, d, b, api.ErrDebugNumber, command+word+behind)
		}
	}
}

// bound is a command, what stands ahead of a number, and behind it, and its bounds.
type bound struct {
	ahead, behind string
	least, most   int
}

// Of each number the least and the greatest are taken, and the next ones are not.
func TestQ2Bounds(t *testing.T) {
	t.Parallel()
	bounds := []bound{
		{"mem", "", 0, 65535}, {"mem", " 1", 0, 65535}, {"mem 7", "", 1, 256}, {"poke", " 1", 0, 65535}, {"poke $c000", "", 0, 255},
		{"list", "", 0, 65535}, {"list", " 1", 0, 65535}, {"list 7", "", 1, 64}, {"break", "", 0, 65535}, {"break", " a = 1", 0, 65535},
		{"watch", "", 0, 65535}, {"delete", "", 1, 16}, {"step", "", 1, 10000}, {"run", "", 1, 200000}, {"until", "", 0, 65535},
		{"trace", "", 1, 100}, {"back", "", 1, 10000}, {"press", "", 0, 255}, {"mark", "", 0, 3}, {"return", "", 0, 3},
	}
	for register := range registersOf(api.Regs{}) {
		bounds = append(bounds, bound{"set " + register, "", 0, topOf(register)}, bound{"break 1 " + register + " <", "", 0, topOf(register)})
	}
	for _, x := range bounds {
		if x.ahead == "set f" {
			x.most = 240
		}
		for _, form := range []string{"%s %d%s", "%s $%x%s"} {
			for _, n := range []int{x.least, x.most} {
				line := fmt.Sprintf(form, x.ahead, n, x.behind)
				d, _ := game(t, "org $150\ninc a\njr @-1\n")
				// What is taken may still not be there; so it is, where it can be.
				does(t, d, "watch 5")
				for range 14 {
					does(t, d, "watch 5")
				}
				if n == 16 {
					does(t, d, "watch 5")
				}
				quiet(t, d, "mark 0", "mark 3")
				if x.ahead == "back" {
					does(t, d, "step 10000")
				}
				does(t, d, line)
			}
			d, b := game(t)
			for _, n := range []int{x.least - 1, x.most + 1, x.most + 2, 1 << 20} {
				want := api.ErrDebugNumber
				if n < 0 {
					want = api.ErrDebugText
				}
				refuses(t, d, b, want, fmt.Sprintf(form, x.ahead, n, x.behind))
			}
		}
	}
}

// Of two things that are wrong a word of the wrong kind is told ahead of a number, wherever it stands; and a number ahead of all else.
func TestQ2Order(t *testing.T) {
	t.Parallel()
	d, b := game(t)
	refuses(t, d, b, api.ErrDebugText, "set a 999999x", "set q 256", "poke 65536 x", "poke x 256", "mem 65536 x", "mem 65536 1 1", "list 65536 x", "list 65536 0 0", "break 65536 a = x", "break 65536 q = 1", "break 65536 a ? 1", "break 65536 a =", "break 65536 a", "break 0 a = 256 1", "watch 65536 1", "delete 17 1", "step 0 0", "run 0 0", "until 65536 0", "trace 0 0", "back 0 0", "press 256 0", "mark 4 0", "return 4 0", "set q x")
	for range 16 {
		does(t, d, "watch 9")
	}
	refuses(t, d, b, api.ErrDebugNumber, "watch 65536", "break 65536", "break 1 a = 256", "delete 17", "back 10001", "return 4")
	refuses(t, d, b, api.ErrDebugText, "watch x", "break x", "break 1 q = 1", "delete x", "back x", "return x")
	refuses(t, d, b, api.ErrDebugPoint, "watch 1", "break 1", "break 1 a = 1", "return 0", "return 3")
	refuses(t, d, b, api.ErrDebugBack, "back 1", "back 10000")
}

// Registers by their names, each by itself.
func TestQ2Registers(t *testing.T) {
	t.Parallel()
	d, b := game(t)
	refuses(t, d, b, api.ErrDebugText, "set af 1", "set A 1", "set HL 1", "set cb 1", "set pcs 1", "set i 1", "set IME 1", "set state 1", "set $1 1", "set [hl] 1", "set a= 1", "break 1 af = 1", "break 1 A = 1", "break 1 1 = 1", "break 1 [hl] = 1")
	for register := range registersOf(api.Regs{}) {
		for _, n := range []int{0, 1, 0x10, 0xa0, 0xf0, 0x1234, 0xfedc, 0xffff} {
			if n > topOf(register) || register == "f" && n%16 != 0 {
				continue
			}
			want := setIn(b.Regs(), register, n)
			quiet(t, d, fmt.Sprintf("set %s %d", register, n))
			is(t, fmt.Sprintf("the registers behind set %s %d", register, n), b.Regs(), want)
		}
	}
	refuses(t, d, b, api.ErrDebugNumber, "set f 1", "set f 8", "set f 15", "set f 17", "set f 241", "set f 255", "set f 256", "set ime 2", "set ime 255")
}

// Set is the board's: with it no EI is due any more, and the processor stays what it is.
func TestQ2SetRegs(t *testing.T) {
	t.Parallel()
	d, _ := game(t, "org $150\nei\ninc a\ninc a\n")
	goes(t, d, "step", "done", 1, "ime=0")
	quiet(t, d, "set b 7")
	goes(t, d, "step 2", "done", 3, "ime=0", "b=$07", "a=$03")

	d, _ = game(t, "org $150\nhalt\n")
	quiet(t, d, "poke $ffff 0")
	goes(t, d, "step 3", "done", 3, "state=halted")
	quiet(t, d, "set pc $c000")
	goes(t, d, "step", "done", 4, "state=halted", "pc=$c000")
}

// An error of the board's is told: of one that somebody else has let go on, here.
func TestQ2SetRefused(t *testing.T) {
	t.Parallel()
	d, b := game(t, "org $150\ncall $200\n")
	b.Cycle()
	refuses(t, d, b, api.ErrCpuBusy, "set a 1", "set pc 0")
	refuses(t, d, b, api.ErrDebugNumber, "set a 256")
	refuses(t, d, b, api.ErrDebugText, "set a x")
}

// All registers' line, in each state of the processor.
func TestQ2Regs(t *testing.T) {
	t.Parallel()
	d, b := game(t)
	for state, name := range []string{"running", "halted", "stopped", "locked"} {
		r := api.Regs{A: 0x12, F: 0xf0, B: 0x3, C: 0xff, D: 0xab, E: 0xcd, H: 0xef, L: 0, SP: 0x9, PC: 0xfffe, IME: state%2 == 0, State: state}
		is(t, "SetRegs", b.SetRegs(r), api.OK)
		says(t, d, "regs", fmt.Sprintf("a=$12 f=$f0 b=$03 c=$ff d=$ab e=$cd h=$ef l=$00 sp=$0009 pc=$fffe ime=%d state=%s\n", 1-state%2, name))
	}
}

// Bytes, sixteen a line, round behind 65535.
func TestQ2Mem(t *testing.T) {
	t.Parallel()
	x := bothOf(t, busy(t, 3, 1, 3), 500)
	for _, line := range []string{"mem 0", "mem $150 1", "mem $150 15", "mem $150 16", "mem $150 17", "mem $150 32", "mem $150 33", "mem $c000 255", "mem $c000 256", "mem 65535", "mem 65535 1", "mem 65535 2", "mem $fff0 16", "mem $fff0 17", "mem $fff1 16", "mem $ff01 256", "mem $ff80 200", "mem $8000 3", "mem $a000 20", "mem $fe9e 4", "mem $ff00 128"} {
		x.line(t, line)
	}
	d, _ := game(t)
	quiet(t, d, "poke $ffff $1f", "poke $fffe 254", "poke $fffd 9")
	says(t, d, "mem $fffd 5", "$fffd: 09 fe 1f 00 00\n")
	says(t, d, "mem $ffee 17", "$ffee: 00 00 00 00 00 00 00 00 00 00 00 00 00 00 00 09\n$fffe: fe\n")
	says(t, d, "mem $ffef 18", "$ffef: 00 00 00 00 00 00 00 00 00 00 00 00 00 00 09 fe\n$ffff: 1f 00\n")
	says(t, d, "mem $fff0 17", "$fff0: 00 00 00 00 00 00 00 00 00 00 00 00 00 09 fe 1f\n$0000: 00\n")
	is(t, "lines of mem $c000 256", strings.Count(does(t, d, "mem $c000 256"), "\n"), 16)
	is(t, "mem without a number", does(t, d, "mem $c000"), does(t, d, "mem $c000 16"))
}

// Poke is the board's, wherever it goes.
func TestQ2Poke(t *testing.T) {
	t.Parallel()
	x := bothOf(t, busy(t, 0x1b, 3, 4), 900)
	for _, line := range []string{"poke $c000 171", "poke $e011 12", "mem $c000 32", "poke 0 10", "poke $a000 99", "mem $a000 1", "poke $4000 3", "mem $a000 1", "poke $4000 0", "poke $2000 5", "poke $ff46 $c0", "step 40", "poke $ff40 0", "mem $fe00 160", "poke $fea0 1", "poke $ffff 255", "poke $ff07 0", "poke $ff04 77", "mem $ff00 16", "step 9", "back 9", "sum"} {
		x.line(t, line)
	}
}

// Instructions, from any place, round behind 65535; none of them goes on there.
func TestQ2List(t *testing.T) {
	t.Parallel()
	d, _ := game(t, "org $150\nld a, 5\nloop: call $1234\njr loop\nldh [$ff44], a\nadd sp, -3\nset 3, [hl]\nrst 8\ndb 211\ndb 16, 1\nstop\n")
	says(t, d, "list $150 11", "$0150: ld a, $05\n$0152: call $1234\n$0155: jr $0152\n$0157: ldh [$ff44], a\n$0159: add sp, -3\n$015b: set 3, [hl]\n$015d: rst $08\n$015e: db $d3\n$015f: db $10\n$0160: ld bc, $0010\n$0163: nop\n")
	is(t, "list alone", does(t, d, "list"), does(t, d, "list $150 8"))
	is(t, "list of an address alone", does(t, d, "list $152"), does(t, d, "list $152 8"))
	is(t, "lines of list 0 64", strings.Count(does(t, d, "list 0 64"), "\n"), 64)
	goes(t, d, "step", "done", 2, "pc=$0152")
	is(t, "list behind a step", does(t, d, "list"), does(t, d, "list 338 8"))
	for _, c := range []struct{ pokes, line, want string }{
		{"c3 01", "list $fffe 3", "$fffe: db $c3\n$ffff: db $01\n$0000: nop\n"},
		{"c3 01", "list $ffff 2", "$ffff: db $01\n$0000: nop\n"},
		{"3e 07", "list $fffe 2", "$fffe: ld a, $07\n$0000: nop\n"},
		{"3c cb", "list $fffe 2", "$fffe: inc a\n$ffff: db $cb\n"},
		{"cb 37", "list $fffe 2", "$fffe: swap a\n$0000: nop\n"},
		{"18 02", "list $fffe 1", "$fffe: jr $0002\n"},
	} {
		var one, two int
		fmt.Sscanf(c.pokes, "%x %x", &one, &two)
		quiet(t, d, fmt.Sprint("poke 65534 ", one), fmt.Sprint("poke 65535 ", two))
		says(t, d, c.line, c.want)
	}
	quiet(t, d, "poke $fffd $21", "poke $fffe 1", "poke $ffff 2")
	says(t, d, "list $fffd 2", "$fffd: ld hl, $0201\n$0000: nop\n")
	quiet(t, d, "set pc $fffd")
	says(t, d, "list", "$fffd: ld hl, $0201\n$0000: nop\n$0001: nop\n$0002: nop\n$0003: nop\n$0004: nop\n$0005: nop\n$0006: nop\n")
}

// Points have the least number that is free; there are MaxPoints at most.
func TestQ2Points(t *testing.T) {
	t.Parallel()
	d, b := game(t)
	says(t, d, "points", "")
	for i := 1; i <= 16; i++ {
		says(t, d, pick(lot(int64(i)), "break 7", "watch 7", "break 7 a = 1"), fmt.Sprintf("point %d\n", i))
	}
	refuses(t, d, b, api.ErrDebugPoint, "break 7", "watch 7", "break 7 a = 1")
	quiet(t, d, "delete 9", "delete 1", "delete 16", "delete 4")
	refuses(t, d, b, api.ErrDebugPoint, "delete 9", "delete 1", "delete 16", "delete 4")
	for _, i := range []int{1, 4, 9, 16} {
		says(t, d, "break $a", fmt.Sprintf("point %d\n", i))
	}
	refuses(t, d, b, api.ErrDebugPoint, "break 7", "watch 7")
	is(t, "points", len(d.Points()), 16)
	for i := 16; i >= 1; i-- {
		quiet(t, d, fmt.Sprint("delete ", i))
	}
	says(t, d, "points", "")
	says(t, d, "watch 1", "point 1\n")
}

// Points as they are written.
func TestQ2PointsWritten(t *testing.T) {
	t.Parallel()
	d, _ := game(t)
	quiet(t, d, "poke $c001 $9c")
	for _, line := range []string{"break 0", "break 65535 a = 0", "break $1a2 f < 255", "break 1 f ! 7", "break 1 bc > $c001", "break 1 sp = 1", "break 1 pc ! 9", "break 1 ime = 1", "break 1 ime > 0", "watch $C001", "watch $ffff", "break   $000001   l   >   $000f"} {
		does(t, d, line)
	}
	says(t, d, "points", "1 break $0000\n2 break $ffff a = $00\n3 break $01a2 f < $ff\n4 break $0001 f ! $07\n5 break $0001 bc > $c001\n6 break $0001 sp = $0001\n7 break $0001 pc ! $0009\n8 break $0001 ime = 1\n9 break $0001 ime > 0\n10 watch $c001 $9c\n11 watch $ffff $00\n12 break $0001 l > $0f\n")
}

// The signs of conditions are just these four.
func TestQ2Signs(t *testing.T) {
	t.Parallel()
	d, b := game(t)
	refuses(t, d, b, api.ErrDebugText, "break 1 a == 1", "break 1 a =< 1", "break 1 a <> 1", "break 1 a =<>! 1", "break 1 a ? 1", "break 1 a eq 1", "break 1 a 1 1", "break 1 a=1", "break 1 a= 1", "break 1 = a 1")
	for i, sign := range []string{"=", "<", ">", "!"} {
		says(t, d, "break 1 a "+sign+" 1", fmt.Sprintf("point %d\n", i+1))
		is(t, "the sign", d.Points()[i].Sign, sign)
	}
}

// Press is the board's: the program sees the buttons.
func TestQ2Press(t *testing.T) {
	t.Parallel()
	d, b := game(t, "org $150\nld a, $10\nldh [$ff00], a\nldh a, [$ff00]\njr @-2\n")
	goes(t, d, "step 3", "done", 2+3+3, "a=$df")
	quiet(t, d, "press 129")
	goes(t, d, "step 2", "done", 8+3+3, "a=$d7")
	is(t, "the request", b.Peek(0xff0f)&16, 16)
	quiet(t, d, "press 0")
	goes(t, d, "step 2", "done", 14+3+3, "a=$df")
}

// The picture's check sum.
func TestQ2Sum(t *testing.T) {
	t.Parallel()
	is(t, "the sum of four bytes 0", debug.SumOf(make([]byte, 4)), 0x2144df1c)
	is(t, "the sum of none", debug.SumOf(nil), 0)
	d, b := game(t, "org $150\nld a, $1b\nldh [$ff47], a\nld hl, $8000\nld a, l\nxor a, h\nld [hl+], a\njr @-4\n")
	seen := map[string]bool{}
	for range 8 {
		want := fmt.Sprintf("$%08x\n", crc(b.Frame()))
		says(t, d, "sum", want)
		seen[want] = true
		does(t, d, "run 17556")
	}
	if len(seen) < 3 {
		t.Errorf("only %d sums were seen", len(seen))
	}
}

// It has eight digits, also where the first one is 0.
func TestQ2SumDigits(t *testing.T) {
	t.Parallel()
	d, b := game(t, "org $150\njr @\n")
	quiet(t, d, "poke $ff47 $e4")
	for shade := range 100 {
		for _, line := range []string{"poke $ff40 0", fmt.Sprint("poke $8000 ", shade), "poke $ff40 145", "run 17556", "run 100"} {
			does(t, d, line)
		}
		says(t, d, "sum", fmt.Sprintf("$%08x\n", crc(b.Frame())))
		if crc(b.Frame()) < 1<<28 {
			return
		}
	}
	t.Error("no sum began with 0")
}

// What was sent, each byte by two digits.
func TestQ2Sent(t *testing.T) {
	t.Parallel()
	d, b := game(t, "org $150\nld b, 8\nloop: ld a, b\nldh [$ff01], a\nld a, $81\nldh [$ff02], a\nwait: ldh a, [$ff02]\nbit 7, a\njr nz, wait\ninc b\njr loop\n")
	says(t, d, "sent", "\n")
	does(t, d, "run 1020")
	says(t, d, "sent", "\n")
	does(t, d, "run 100")
	says(t, d, "sent", "08\n")
	does(t, d, "run 9000")
	says(t, d, "sent", "08 09 0a 0b 0c 0d 0e 0f 10\n")
	for range 2 {
		does(t, d, "run 200000")
	}
	want := fmt.Sprintf("% x\n", b.Sent())
	says(t, d, "sent", want)
	is(t, "as many as are known", len(want), 3*256)
}

// How many cycles went by.
func TestQ2Cycles(t *testing.T) {
	t.Parallel()
	d, _ := game(t, "org $150\ninc a\njr @-1\n")
	for _, c := range []struct {
		line string
		want int
	}{{"regs", 0}, {"step", 1}, {"step", 4}, {"run 1", 5}, {"run 1", 8}, {"run 100000", 100008}, {"back 2", 100004}, {"poke $c000 1", 100004}, {"set a 9", 100004}, {"press 3", 100004}, {"step 10000", 120004}} {
		does(t, d, c.line)
		says(t, d, "cycles", fmt.Sprintf("%d\n", c.want))
		is(t, "Cycles", d.Cycles(), c.want)
	}
}
