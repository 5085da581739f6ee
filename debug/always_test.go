package debug_test

import (
	"fmt"
	"math/rand"
	"slices"
	"strings"
	"sync"
	"testing"

	"arcade/api"
	"arcade/debug"
)

// pick is one of some.
func pick[T any](draw *rand.Rand, of ...T) T {
	return of[draw.Intn(len(of))]
}

// anyNumber is a number of a word, mostly of one that may be: in one base or the other.
func anyNumber(draw *rand.Rand, most int) string {
	n := draw.Intn(most + 1)
	if draw.Intn(20) == 0 {
		n = pick(draw, 0, most, most+1, most+2, 9999999)
	}
	return pick(draw, fmt.Sprint(n), fmt.Sprintf("$%x", n), fmt.Sprintf("$%06X", n), fmt.Sprintf("%07d", n))
}

// anyAddress is one at which something may happen.
func anyAddress(draw *rand.Rand) string {
	if draw.Intn(3) == 0 {
		return anyNumber(draw, 65535)
	}
	return pick(draw, "$150", "$153", "$16d", "$18e", "$28", "$2a", "$50", "$17c", "$c000", "$ff80", "$ff05", "$ff04", "$ff0f", "$ff44", "$ff41", "$8000", "$a000", "$dffd", "$dffb", "$fffe", "65535", "$014d")
}

func anyRegister(draw *rand.Rand) string {
	return pick(draw, "a", "f", "b", "c", "d", "e", "h", "l", "bc", "de", "hl", "sp", "pc", "ime")
}

// anyLine is a line of any command, mostly one that may be; what takes long seldom does.
func anyLine(draw *rand.Rand) string {
	switch draw.Intn(27) {
	case 0:
		return "regs"
	case 1:
		r := anyRegister(draw)
		if draw.Intn(3) > 0 {
			r = pick(draw, "a", "bc", "e", "hl") // of which less hangs on what goes on
		}
		return "set " + r + " " + anyNumber(draw, topOf(r))
	case 2:
		return "mem " + anyAddress(draw) + pick(draw, "", " 1", " 16", " 17", " "+anyNumber(draw, 256))
	case 3:
		return "poke " + pick(draw, "$c000", "$c001", "$ff80", "$ff07", "$ff05", "$ffff", "$ff47", "$ff0f", anyAddress(draw)) + " " + anyNumber(draw, 255)
	case 4:
		return pick(draw, "list", "list "+anyAddress(draw), "list "+anyAddress(draw)+" "+anyNumber(draw, 64))
	case 5, 6:
		line := "break " + anyAddress(draw)
		if draw.Intn(3) > 0 {
			r := anyRegister(draw)
			line += " " + r + " " + pick(draw, "=", "<", ">", "!", "<", ">", "!") + " " + anyNumber(draw, topOf(r))
		}
		return line
	case 7, 8:
		return "watch " + anyAddress(draw)
	case 9, 10:
		return "delete " + anyNumber(draw, 16)
	case 11:
		return "points"
	case 12, 13, 14:
		return pick(draw, "step", "step 1", "step 2", "step "+anyNumber(draw, 60), "step "+anyNumber(draw, 400))
	case 15:
		return "run " + pick(draw, "1", "2", "3", anyNumber(draw, 300), anyNumber(draw, 3000))
	case 16:
		return "over"
	case 17:
		return "out"
	case 18:
		return "until " + anyAddress(draw)
	case 19:
		return "trace " + anyNumber(draw, 100)
	case 20, 21, 22:
		return "back " + pick(draw, "1", "2", "3", anyNumber(draw, 60), anyNumber(draw, 1000), "10000")
	case 23:
		return "press " + anyNumber(draw, 255)
	case 24:
		return "mark " + anyNumber(draw, 3)
	case 25:
		return pick(draw, "return "+anyNumber(draw, 3), "sent", "cycles", "sum")
	}
	return anyWrong(draw)
}

// anyWrong is a line that is mostly none.
func anyWrong(draw *rand.Rand) string {
	var words []string
	for range draw.Intn(6) {
		words = append(words, pick(draw, "set", "break", "mem", "poke", "a", "hl", "ime", "=", "<", "!", "==", "x", "1", "$1", "16", "$", "$g", "-1", "+1", "1_0", "12345678", "65536", "300", "regs", "REGS", "step", "\t", "é", "\xff", "\x00"))
	}
	return strings.Join(words, pick(draw, " ", " ", "  ", "   "))
}

// Whatever lines come, all answers are as they should be, and all that can be told.
func TestQ2Lines(t *testing.T) {
	t.Parallel()
	for name, bytes := range roms(t) {
		t.Run(name, func(t *testing.T) {
			t.Parallel()
			for seed := range int64(3) {
				draw := lot(seed)
				x := bothOf(t, bytes, draw.Intn(300))
				for range 200 {
					x.line(t, strings.Repeat(" ", draw.Intn(2))+anyLine(draw)+strings.Repeat(" ", draw.Intn(2)))
				}
			}
		})
	}
}

// Several debuggers whose lines come by turns do not touch each other.
func TestQ1Several(t *testing.T) {
	t.Parallel()
	var xs []both
	for _, bytes := range roms(t) {
		xs = append(xs, bothOf(t, bytes, 0), bothOf(t, bytes, 7))
	}
	draw := lot(99)
	for range 400 {
		xs[draw.Intn(len(xs))].line(t, anyLine(draw))
	}
}

// told is all that a debugger answers to lines by lot, as one list.
func told(t *testing.T, bytes []byte, seed int64) []string {
	b := made(t, bytes)
	d, _ := debug.New(b)
	draw := lot(seed)
	var list []string
	for range 120 {
		s, e := d.Do(anyLine(draw))
		list = append(list, fmt.Sprint(s, e, d.Cycles(), d.Points(), debug.SumOf(b.State())))
	}
	return list
}

// What one answers hangs on nothing that goes on beside it.
func TestQ1Beside(t *testing.T) {
	t.Parallel()
	bytes := [2][]byte{busy(t, 3, 1, 3), busy(t, 0, 0, 0)}
	var want, got [8][]string
	for i := range want {
		want[i] = told(t, bytes[i%2], int64(i))
	}
	var all sync.WaitGroup
	for i := range got {
		all.Go(func() { got[i] = told(t, bytes[i%2], int64(i)) })
	}
	all.Wait()
	for i := range want {
		if !slices.Equal(want[i], got[i]) {
			t.Errorf("R4: what the %d-th tells hangs on others", i)
		}
	}
}

// No text makes a call panic, or last for ever.
func TestQ2AnyText(t *testing.T) {
	t.Parallel()
	draw := lot(5)
	d, _ := game(t, "org $150\ninc a\njr @-1\n")
	letters := "  $019afhlsp=<>!\n\t\x00\xff" + "setmembreak"
	for range 30000 {
		text := make([]byte, draw.Intn(30))
		for i := range text {
			text[i] = letters[draw.Intn(len(letters))]
		}
		line := pick(draw, "", "set ", "mem ", "break 1 ", "list ", "points ", "delete ", "press ") + string(text)
		if s, e := d.Do(line); e != api.OK && s != "" {
			t.Fatalf("R2: Do(%q) = %q, %d", line, s, e)
		}
		if _, n, e := d.Script(line); (e == api.OK) != (n == 0) {
			t.Fatalf("Q5: Script(%q) = %d, %d", line, n, e)
		}
	}
}
