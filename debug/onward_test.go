package debug_test

import (
	"fmt"
	"strings"
	"testing"

	"arcade/api"
)

// counting has a loop of 1 and 3 cycles at $150, in which a counts.
const counting = "org $150\ninc a\njr @-1\n"

// calling calls from $150 on what calls itself, twice. It comes to $153 by 45 cycles, a being 4 and b 3.
const calling = `org $150
call twice
inc c
jr @
org $160
twice: inc a
cp a, 4
call c, twice
inc b
ret
`

// Steps are instructions; without a number it is one.
func TestQ3Step(t *testing.T) {
	t.Parallel()
	d, _ := game(t, counting)
	goes(t, d, "step", "done", 1, "a=$02", "pc=$0151")
	goes(t, d, "step 1", "done", 4, "a=$02", "pc=$0150")
	goes(t, d, "step 2", "done", 8, "a=$03", "pc=$0150")
	goes(t, d, "step 9999", "done", 8+4999*4+1, "pc=$0151")
	goes(t, d, "step 10000", "done", 8+4999*4+1+20000, "pc=$0151")
}

// A run ends with the first instruction with which there are so many cycles.
func TestQ3Run(t *testing.T) {
	t.Parallel()
	for _, c := range []struct{ many, want int }{{1, 1}, {2, 4}, {3, 4}, {4, 4}, {5, 5}, {6, 8}, {8, 8}, {9, 9}, {1000, 1000}, {1001, 1001}, {1002, 1004}, {199999, 200000}, {200000, 200000}} {
		d, _ := game(t, counting)
		goes(t, d, fmt.Sprint("run ", c.many), "done", c.want)
		next := 1
		if c.want%4 == 1 {
			next = 3
		}
		goes(t, d, "run 1", "done", c.want+next)
	}
}

// Over a call and all that is called within it; the place behind counts only with the same SP.
func TestQ3Over(t *testing.T) {
	t.Parallel()
	d, _ := game(t, calling)
	goes(t, d, "over", "done", 45, "a=$04", "b=$03", "pc=$0153", "sp=$fffe")
	goes(t, d, "over", "done", 46, "c=$14", "pc=$0154")
	goes(t, d, "over", "done", 49, "pc=$0154")

	d, _ = game(t, calling)
	goes(t, d, "until $163", "done", 6+1+2, "sp=$fffc")
	goes(t, d, "over", "done", 45-5, "pc=$0166", "a=$04", "b=$02", "sp=$fffc")
	goes(t, d, "over", "done", 45-4, "pc=$0167", "b=$03")
	goes(t, d, "over", "done", 45, "pc=$0153")
}

// A call that is not made is over behind it; rst is one, too. All else is a step.
func TestQ3OverWhat(t *testing.T) {
	t.Parallel()
	for _, c := range []struct {
		code, some string
		cycles     int
	}{
		{"call z, $200", "pc=$0153", 6 + 4},
		{"call nz, $200", "pc=$0153", 3},
		{"call $200", "pc=$0153", 6 + 4},
		{"rst $20", "pc=$0151", 4 + 4},
		{"rst 0", "pc=$0151", 4 + 4},
		{"jp $200", "pc=$0200", 4},
		{"jr @", "pc=$0150", 3},
		{"push af", "pc=$0151", 4},
		{"pop af", "pc=$0151", 3},
		{"nop", "pc=$0151", 1},
		{"ld a, $cd", "pc=$0152", 2},
		{"ei", "pc=$0151", 1},
		{"db 16, 0", "pc=$0152", 2},
	} {
		d, _ := game(t, "org $150\n"+c.code+"\n", "org $200\nret\n", "org $20\nret\n", "org 0\nret\n")
		quiet(t, d, "poke $ffff 0", "set f $80")
		goes(t, d, "over", "done", c.cycles, c.some)
	}
	d, _ := game(t, "org $200\nret\n")
	// The address behind is one of 16 bits.
	quiet(t, d, "poke $fffd $cd", "poke $fffe 0", "poke $ffff 2", "set pc $fffd", "set sp $c100")
	goes(t, d, "over", "done", 10, "pc=$0000", "sp=$c100")
	// A call whose bytes are not all there is none.
	quiet(t, d, "poke $ffff $cd", "set pc $ffff")
	goes(t, d, "over", "done", d.Cycles()+6, "pc=$0000", "sp=$c0fe")
}

// Out of what was called: until SP is above.
func TestQ3Out(t *testing.T) {
	t.Parallel()
	d, _ := game(t, calling)
	goes(t, d, "until $160", "done", 6, "sp=$fffc")
	goes(t, d, "step 3", "done", 15, "sp=$fffa")
	goes(t, d, "step 3", "done", 24, "sp=$fff8")
	goes(t, d, "out", "done", 24+6+5, "sp=$fffa", "pc=$0166")
	goes(t, d, "out", "done", 24+6+10, "sp=$fffc", "pc=$0166")
	goes(t, d, "out", "done", 45, "sp=$fffe", "pc=$0153")
	quiet(t, d, "set sp $ffff")
	goes(t, d, "out", "long", 45+1+3*66667, "sp=$ffff")
}

// Until an address: one instruction is done at least.
func TestQ3Until(t *testing.T) {
	t.Parallel()
	d, _ := game(t, counting)
	goes(t, d, "until $151", "done", 1)
	goes(t, d, "until $151", "done", 5, "a=$03")
	goes(t, d, "until $150", "done", 8)
	goes(t, d, "until $150", "done", 12)
}

// What is asked for is not reached: behind MaxCycles cycles it stops; what is reached with the last of them is reached.
func TestQ3Long(t *testing.T) {
	t.Parallel()
	for _, line := range []string{"until 5", "out"} {
		d, _ := game(t, counting)
		goes(t, d, line, "long", 200000)
		goes(t, d, line, "long", 400000)
		goes(t, d, "step", "done", 400001)
		goes(t, d, line, "long", 600001)
	}
	d, _ := game(t, "org $150\ncall $200\n", "org $200\njr @\n")
	goes(t, d, "over", "long", 6+3*66665) // 199998 behind the one ahead
	goes(t, d, "over", "done", 6+3*66666)

}

// lasting is what takes 7 cycles for each of many, and 2 more; 8 bytes.
func lasting(many int) string {
	return fmt.Sprintf("ld bc, %d\ndec bc\nld a, b\nor a, c\njr nz, @-3\n", many)
}

// What is reached with the instruction with which MaxCycles cycles went by is reached; a later one is not.
func TestQ3JustReached(t *testing.T) {
	t.Parallel()
	for _, c := range []struct {
		source, line, why string
		cycles            int
	}{
		{"org $150\n" + lasting(28571) + "nop\nnop\n", "until $158", "done", 199999},
		{"org $150\n" + lasting(28571) + "nop\nnop\n", "until $159", "done", 200000},
		{"org $150\n" + lasting(28571) + "nop\nnop\n", "until $15a", "long", 200000},
		{"org $150\n" + lasting(28571) + "jp $200\n", "until $200", "done", 200003},
		{"org $150\n" + lasting(28571) + "nop\njp $200\n", "until $200", "long", 200000},
		{"org $150\ncall $160\norg $160\n" + lasting(28570) + "nop\nret\n", "over", "done", 200003},
		{"org $150\ncall $160\norg $160\n" + lasting(28570) + "nop\nnop\nret\n", "over", "long", 200000},
		{"org $150\n" + lasting(28571) + "pop hl\n", "out", "done", 200002},
		{"org $150\n" + lasting(28571) + "nop\npop hl\n", "out", "long", 200000},
		{"org $150\n" + lasting(28571) + "nop\nnop\n", "run 200000", "done", 200000},
	} {
		d, _ := game(t, c.source)
		quiet(t, d, "set sp $d000")
		goes(t, d, c.line, c.why, c.cycles)
	}
	d, _ := game(t, "org $150\njr @\n")
	goes(t, d, "step 10000", "done", 30000)
	quiet(t, d, "set pc $200")
	goes(t, d, "step 10000", "done", 40000) // of these nothing is too long
}

// Conditions, of each register, just below, at and above its number.
func TestQ3Conditions(t *testing.T) {
	t.Parallel()
	d, b := game(t, "org $150\njr @\n")
	for register := range registersOf(api.Regs{}) {
		top := topOf(register)
		for _, n := range []int{0, 1, top / 2, top - 1, top} {
			if n < 0 || register == "pc" || register == "f" {
				continue
			}
			quiet(t, d, fmt.Sprintf("set %s %d", register, n))
			conditions(t, d.Do, b.Regs(), register, n, top)
		}
	}
	for f := 0; f < 256; f += 16 {
		quiet(t, d, fmt.Sprintf("set f %d", f))
		conditions(t, d.Do, b.Regs(), "f", f, 255)
	}
	conditions(t, d.Do, b.Regs(), "pc", 0x150, 65535)
}

// conditions has breaks on a register, which is n behind the next instruction.
func conditions(t *testing.T, do func(string) (string, api.Errno), r api.Regs, register string, n, top int) {
	t.Helper()
	is(t, register, registersOf(r)[register], n)
	for _, sign := range []string{"=", "<", ">", "!"} {
		for _, than := range []int{n - 1, n, n + 1, 0, top} {
			if than < 0 || than > top {
				continue
			}
			do(fmt.Sprintf("break $150 %s %s %d", register, sign, than))
			why := "done\n"
			if sign == "=" && n == than || sign == "<" && n < than || sign == ">" && n > than || sign == "!" && n != than {
				why = "point 1\n"
			}
			if s, e := do("step"); !strings.HasPrefix(s, why) || e != api.OK {
				t.Errorf("Q3: break %s %s %d with %d: %q, %d, want %q", register, sign, than, n, s, e, why)
			}
			do("delete 1")
		}
	}
}

// A break is hit behind an instruction, not ahead of it, and at its address alone.
func TestQ3Break(t *testing.T) {
	t.Parallel()
	d, _ := game(t, counting)
	says(t, d, "break $150", "point 1\n")
	goes(t, d, "step", "done", 1)
	goes(t, d, "step", "point 1", 4)
	goes(t, d, "run 100", "point 1", 8)
	goes(t, d, "step 100", "point 1", 12)
	goes(t, d, "trace 100", "point 1", 16)
	goes(t, d, "until 7", "point 1", 20)
	goes(t, d, "out", "point 1", 24)
	goes(t, d, "over", "done", 25)
	goes(t, d, "over", "point 1", 28)
	says(t, d, "break $151 a = 9", "point 2\n")
	quiet(t, d, "delete 1")
	goes(t, d, "run 1000", "point 2", 29, "a=$09")
	goes(t, d, "run 1000", "done", 1029)
	goes(t, d, "run 1000", "point 2", 1053, "a=$09")
}

// A watch is hit when its byte is another one than known, whoever has changed it, and knows it then.
func TestQ3Watch(t *testing.T) {
	t.Parallel()
	d, _ := game(t, "org $150\nld hl, $c000\nloop: inc [hl]\nld [hl], 7\nld [hl], 7\njr loop\n")
	says(t, d, "watch $c000", "point 1\n")
	goes(t, d, "run 100", "point 1", 3+3)
	says(t, d, "points", "1 watch $c000 $01\n")
	goes(t, d, "run 100", "point 1", 9)
	says(t, d, "points", "1 watch $c000 $07\n")
	goes(t, d, "run 100", "point 1", 9+3+3+3)
	is(t, "known", d.Points()[0].Value, 8)

	// What a line changes is seen behind the next instruction; what it changes back is not.
	d, _ = game(t, "org $150\njr @\n")
	quiet(t, d, "poke $c000 5")
	says(t, d, "watch $c000", "point 1\n")
	says(t, d, "watch $e000", "point 2\n")
	says(t, d, "watch $c001", "point 3\n")
	quiet(t, d, "poke $c000 6")
	says(t, d, "points", "1 watch $c000 $05\n2 watch $e000 $05\n3 watch $c001 $00\n")
	goes(t, d, "step 5", "point 1", 3)
	says(t, d, "points", "1 watch $c000 $06\n2 watch $e000 $06\n3 watch $c001 $00\n")
	quiet(t, d, "poke $c000 7", "poke $c000 6")
	goes(t, d, "step 5", "done", 18)
	quiet(t, d, "delete 1", "poke $c000 9")
	goes(t, d, "step 5", "point 2", 21)
	// One that is made later knows what stands there then.
	quiet(t, d, "poke $c000 10")
	says(t, d, "watch $c000", "point 1\n")
	goes(t, d, "step 5", "point 2", 24)
	goes(t, d, "step 5", "done", 39)
}

// A watch is of what Peek tells: also of what is nobody's memory.
func TestQ3WatchAnything(t *testing.T) {
	t.Parallel()
	x := bothOf(t, busy(t, 3, 2, 3), 0)
	for _, at := range []string{"$ff04", "$ff05", "$ff0f", "$ff41", "$ff44", "$8000", "$fe00", "$4000", "$a000", "$ff02"} {
		x.line(t, "watch "+at)
		for range 6 {
			x.line(t, "run 3000")
		}
		x.line(t, "delete 1")
	}
}

// Of what is hit at once the least number is told, and all watches know their bytes then.
func TestQ3Least(t *testing.T) {
	t.Parallel()
	d, _ := game(t, "org $150\nld a, 5\nld [$c000], a\ninc a\nld [$c000], a\njr @\n")
	for i, line := range []string{"break $155 a = 6", "watch $c000", "break $155", "watch $e000", "break $155 a < 6", "break $159"} {
		says(t, d, line, fmt.Sprintf("point %d\n", i+1))
	}
	goes(t, d, "run 100", "point 2", 6, "pc=$0155")
	says(t, d, "points", "1 break $0155 a = $06\n2 watch $c000 $05\n3 break $0155\n4 watch $e000 $05\n5 break $0155 a < $06\n6 break $0159\n")
	goes(t, d, "back 1", "done", 2)
	says(t, d, "points", "1 break $0155 a = $06\n2 watch $c000 $00\n3 break $0155\n4 watch $e000 $00\n5 break $0155 a < $06\n6 break $0159\n")
	quiet(t, d, "delete 2")
	goes(t, d, "step", "point 3", 6)
	goes(t, d, "back 1", "done", 2)
	quiet(t, d, "delete 3")
	goes(t, d, "step", "point 4", 6)
	goes(t, d, "back 1", "done", 2)
	quiet(t, d, "delete 4")
	goes(t, d, "step", "point 5", 6)
	says(t, d, "watch $c000", "point 2\n")
	goes(t, d, "step 100", "point 2", 6+1+4)
}

// Why it stops: being locked goes ahead of a point, that ahead of what was asked for, that ahead of what takes too long.
func TestQ3Why(t *testing.T) {
	t.Parallel()
	for _, line := range []string{"step", "step 9", "run 1", "run 9", "over", "out", "until $151", "until 9", "trace 1", "trace 9"} {
		d, _ := game(t, "org $150\ndb 211\n")
		says(t, d, "break $151", "point 1\n")
		says(t, d, "watch $c000", "point 2\n")
		quiet(t, d, "poke $c000 1")
		goes(t, d, line, "locked", 1, "pc=$0151", "state=locked")
		says(t, d, "points", "1 break $0151\n2 watch $c000 $01\n") // it knows it, whatever is told
		goes(t, d, line, "locked", 2)

		d, _ = game(t, "org $150\nnop\njr @\n")
		says(t, d, "break $151", "point 1\n")
		says(t, d, "watch $c000", "point 2\n")
		goes(t, d, line, "point 1", 1)
		quiet(t, d, "poke $c000 1", "set pc $150", "delete 1")
		goes(t, d, line, "point 2", 2)
	}
}

// A point is told that is hit where what was asked for is reached, or where it would have taken too long.
func TestQ3PointAtTheEnd(t *testing.T) {
	t.Parallel()
	const source = "org $150\ninc bc\njr @-1\n" // five cycles, behind 200000 of them bc is 40019
	for _, c := range []struct{ point, line, why string }{
		{"break $150 bc = 40019", "until 9", "point 1"},
		{"break $150 bc = 40020", "until 9", "long"},
		{"break $150 bc > 40018", "out", "point 1"},
		{"break $150 bc > 40019", "out", "long"},
		{"break $150 bc = 40019", "run 200000", "point 1"},
		{"break $150 bc = 40020", "run 200000", "done"},
	} {
		d, _ := game(t, source)
		says(t, d, c.point, "point 1\n")
		goes(t, d, c.line, c.why, 200000, "b=$9c", "c=$53")
	}
	d, _ := game(t, source)
	says(t, d, "break $150", "point 1\n")
	goes(t, d, "step 2", "point 1", 5)
	goes(t, d, "until $150", "point 1", 10)
	goes(t, d, "trace 2", "point 1", 15)
}

// A trace shows each instruction, as many as are done.
func TestQ3Trace(t *testing.T) {
	t.Parallel()
	d, _ := game(t, "org $150\nld bc, $1234\nadd a, b\npush bc\ncall $160\n", "org $160\nld hl, $c0de\nld [hl], d\nrst 8\n")
	says(t, d, "trace 1", "$0150: ld bc, $1234 ; a=$01 f=$b0 bc=$1234 de=$00d8 hl=$014d sp=$fffe\ndone\na=$01 f=$b0 b=$12 c=$34 d=$00 e=$d8 h=$01 l=$4d sp=$fffe pc=$0153 ime=0 state=running\n")
	says(t, d, "trace 4", "$0153: add a, b ; a=$13 f=$00 bc=$1234 de=$00d8 hl=$014d sp=$fffe\n$0154: push bc ; a=$13 f=$00 bc=$1234 de=$00d8 hl=$014d sp=$fffc\n$0155: call $0160 ; a=$13 f=$00 bc=$1234 de=$00d8 hl=$014d sp=$fffa\n$0160: ld hl, $c0de ; a=$13 f=$00 bc=$1234 de=$00d8 hl=$c0de sp=$fffa\ndone\na=$13 f=$00 b=$12 c=$34 d=$00 e=$d8 h=$c0 l=$de sp=$fffa pc=$0163 ime=0 state=running\n")
	says(t, d, "break 8", "point 1\n")
	says(t, d, "trace 100", "$0163: ld [hl], d ; a=$13 f=$00 bc=$1234 de=$00d8 hl=$c0de sp=$fffa\n$0164: rst $08 ; a=$13 f=$00 bc=$1234 de=$00d8 hl=$c0de sp=$fff8\npoint 1\na=$13 f=$00 b=$12 c=$34 d=$00 e=$d8 h=$c0 l=$de sp=$fff8 pc=$0008 ime=0 state=running\n")
	is(t, "lines of trace 100", strings.Count(does(t, d, "trace 100"), "\n"), 102)

	// What is halted shows what stands at PC; what is locked, one line.
	d, _ = game(t, "org $150\nhalt\ndb 211\n")
	quiet(t, d, "poke $ffff 0")
	says(t, d, "trace 2", "$0150: halt ; a=$01 f=$b0 bc=$0013 de=$00d8 hl=$014d sp=$fffe\n$0151: db $d3 ; a=$01 f=$b0 bc=$0013 de=$00d8 hl=$014d sp=$fffe\ndone\na=$01 f=$b0 b=$00 c=$13 d=$00 e=$d8 h=$01 l=$4d sp=$fffe pc=$0151 ime=0 state=halted\n")
	quiet(t, d, "poke $ffff 1")
	says(t, d, "trace 9", "$0151: db $d3 ; a=$01 f=$b0 bc=$0013 de=$00d8 hl=$014d sp=$fffe\n$0151: db $d3 ; a=$01 f=$b0 bc=$0013 de=$00d8 hl=$014d sp=$fffe\nlocked\na=$01 f=$b0 b=$00 c=$13 d=$00 e=$d8 h=$01 l=$4d sp=$fffe pc=$0152 ime=0 state=locked\n")
}

// Programs of all mappers, gone through in all ways.
func TestQ3Programs(t *testing.T) {
	t.Parallel()
	for _, bytes := range roms(t) {
		x := bothOf(t, bytes, 0)
		for _, line := range []string{"until $150", "break $17c a > 3", "watch $c000", "over", "step 12", "over", "over", "out", "run 999", "delete 2", "run 9999", "trace 30", "until $50", "out", "step 400", "delete 1", "run 20000", "over", "trace 100"} {
			x.line(t, line)
		}
	}
}
