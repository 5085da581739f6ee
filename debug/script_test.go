package debug_test

import (
	"fmt"
	"strings"
	"testing"

	"arcade/api"
)

// scripts holds what a text is answered.
func scripts(t *testing.T, do func(string) (string, int, api.Errno), text, want string, line int, e api.Errno) {
	t.Helper()
	if s, n, f := do(text); s != want || n != line || f != e {
		t.Errorf("Q5: Script(%.80q) = %q, %d, %d, want %q, %d, %d", text, s, n, f, want, line, e)
	}
}

// Lines go up to each byte 10; what stands behind the last one is a line, if there is something.
func TestQ5Lines(t *testing.T) {
	t.Parallel()
	d, _ := game(t, counting)
	for _, c := range []struct {
		text, want string
		line       int
		e          api.Errno
	}{
		{"", "", 0, api.OK},
		{"\n", "", 0, api.OK},
		{" ", "", 0, api.OK},
		{"  \n   \n\n ", "", 0, api.OK},
		{"cycles", "0\n", 0, api.OK},
		{"cycles\n", "0\n", 0, api.OK},
		{"cycles\ncycles", "0\n0\n", 0, api.OK},
		{"\n\ncycles\n\n cycles \n", "0\n0\n", 0, api.OK},
		{"sent\nmem 0 1\nsent", "\n$0000: 00\n\n", 0, api.OK},
		{"x", "", 1, api.ErrDebugText},
		{"\nx", "", 2, api.ErrDebugText},
		{"\n\n\nx\n", "", 4, api.ErrDebugText},
		{"cycles\nx\ncycles", "0\n", 2, api.ErrDebugText},
		{"cycles\ncycles\n\nstep 0", "0\n0\n", 4, api.ErrDebugNumber},
		{"cycles\nback 1\nx", "0\n", 2, api.ErrDebugBack},
		{"return 3\ncycles", "", 1, api.ErrDebugPoint},
		{"cycles\r\ncycles", "", 1, api.ErrDebugText},
		{"cycles\x00", "", 1, api.ErrDebugText},
		{"cycles;cycles", "", 1, api.ErrDebugText},
		{"watch 1\npoints\ndelete 1\ndelete 1\n", "point 1\n1 watch $0001 $00\n", 4, api.ErrDebugPoint},
		{strings.Repeat(" ", 100) + "\ncycles", "0\n", 0, api.OK},
		{strings.Repeat(" ", 101) + "\ncycles", "", 1, api.ErrDebugText},
		{"cycles\n" + strings.Repeat(" ", 97) + "regs", "0\n", 2, api.ErrDebugText},
	} {
		scripts(t, d.Script, c.text, c.want, c.line, c.e)
	}
}

// A script has at most MaxScript bytes, whatever they are; of a longer one nothing is done.
func TestQ5Long(t *testing.T) {
	t.Parallel()
	d, b := game(t, counting)
	scripts(t, d.Script, strings.Repeat("\n", 4000), "", 0, api.OK)
	scripts(t, d.Script, strings.Repeat("\n", 3993)+" cycles", "0\n", 0, api.OK)
	scripts(t, d.Script, strings.Repeat("\n", 3993)+"cyclesx", "", 3994, api.ErrDebugText)
	scripts(t, d.Script, strings.Repeat("step\n", 800), stepped(800), 0, api.OK)
	is(t, "cycles", d.Cycles(), 1600)
	was := allOf(d, b)
	scripts(t, d.Script, strings.Repeat("\n", 4001), "", 0, api.ErrDebugText)
	scripts(t, d.Script, "step\n"+strings.Repeat("\n", 3996), "", 0, api.ErrDebugText)
	scripts(t, d.Script, strings.Repeat("x", 100000), "", 0, api.ErrDebugText)
	is(t, "nothing is done", allOf(d, b) == was, true)
}

// stepped is the answers to so many steps in counting.
func stepped(many int) string {
	text := ""
	a, f := 1, 0xb0
	for i := range many {
		pc := 0x150
		if i%2 == 0 {
			a = (a + 1) % 256
			f = 0x10
			if a == 0 {
				f += 0x80
			}
			if a%16 == 0 {
				f += 0x20
			}
			pc++
		}
		text += fmt.Sprintf("done\na=$%02x f=$%02x b=$00 c=$13 d=$00 e=$d8 h=$01 l=$4d sp=$fffe pc=$%04x ime=0 state=running\n", a, f, pc)
	}
	return text
}

// What was done ahead of an error stays done; what stands behind it is not.
func TestQ5Errors(t *testing.T) {
	t.Parallel()
	d, b := game(t, counting)
	scripts(t, d.Script, "set b 7\nstep\nbreak 9\nmark 2\nset b 300\nset b 8\ndelete 1\n", "done\na=$02 f=$10 b=$07 c=$13 d=$00 e=$d8 h=$01 l=$4d sp=$fffe pc=$0151 ime=0 state=running\npoint 1\n", 5, api.ErrDebugNumber)
	is(t, "b", b.Regs().B, 7)
	is(t, "cycles", d.Cycles(), 1)
	is(t, "points", len(d.Points()), 1)
	scripts(t, d.Script, "return 2\nreturn 1\nset c 3", "", 2, api.ErrDebugPoint)
	is(t, "c", b.Regs().C, 0x13)
}

// A script is its lines, each as by Do.
func TestQ5AsByDo(t *testing.T) {
	t.Parallel()
	for _, bytes := range roms(t) {
		for seed := range int64(3) {
			draw := lot(seed + 40)
			x, b := bothOf(t, bytes, 0), made(t, bytes)
			d := newOf(t, b)
			for range 6 {
				var lines []string
				want, line, e := "", 0, api.OK
				for range 12 {
					lines = append(lines, anyLine(draw))
				}
				text := strings.Join(lines, "\n")
				for i, one := range strings.Split(text, "\n") {
					s, f := x.d.Do(one)
					if want += s; f != api.OK {
						line, e = i+1, f
						break
					}
				}
				scripts(t, d.Script, text, want, line, e)
				is(t, "cycles", d.Cycles(), x.d.Cycles())
				alike(t, "Q5: behind a script", b, x.looked)
			}
		}
	}
}
