package debug_test

import (
	"fmt"
	"strings"
	"testing"

	"arcade/api"
)

// Behind any commands but changes, back and return the board is as one that was not looked at.
func TestQ7Looked(t *testing.T) {
	t.Parallel()
	for name, bytes := range roms(t) {
		for seed := range int64(3) {
			draw := lot(seed + 70)
			b, other, went := made(t, bytes), made(t, bytes), 0
			d := newOf(t, b)
			for range 80 {
				line := anyLine(draw)
				switch strings.Split(line+" ", " ")[0] {
				case "set", "poke", "press", "back", "return":
					continue
				}
				d.Do(line)
				ran(other, d.Cycles()-went)
				went = d.Cycles()
				alike(t, fmt.Sprintf("Q7: %s, behind %q", name, line), b, other)
			}
		}
	}
}

// With all points set, and marks kept, a machine goes on as without.
func TestQ7Points(t *testing.T) {
	t.Parallel()
	bytes := busy(t, 3, 2, 3)
	b := made(t, bytes)
	d := newOf(t, b)
	for i := range 16 {
		does(t, d, []string{"watch $c000", "break $17c", "watch $ff04", "break $50 a ! 1", "watch $ff41"}[i%5])
	}
	for range 400 {
		does(t, d, "run 200000")
		quiet(t, d, "mark 1")
		does(t, d, "mem $fe00 256")
	}
	alike(t, "Q7: points and marks", b, ran(made(t, bytes), d.Cycles()))
}

// A step of some and then as many back is nothing, but for what was sent.
func TestQ8Nothing(t *testing.T) {
	t.Parallel()
	for name, bytes := range roms(t) {
		b := made(t, bytes)
		d := newOf(t, b)
		draw := lot(8)
		for range 12 {
			does(t, d, fmt.Sprint("run ", draw.Intn(4000)+1))
			does(t, d, "watch $c000")
			quiet(t, d, "delete 1")
			was, cycles, regs, picture := string(b.State()), d.Cycles(), does(t, d, "regs"), does(t, d, "sum")
			many := pick(draw, 1, 2, 3, draw.Intn(300)+1, draw.Intn(5000)+1)
			for range 2 {
				does(t, d, fmt.Sprint("step ", many))
				is(t, "back", does(t, d, fmt.Sprint("back ", many)), "done\n"+regs)
				if string(b.State()) != was || d.Cycles() != cycles || does(t, d, "sum") != picture {
					t.Fatalf("Q8: %s: step %d and back %d are not nothing", name, many, many)
				}
			}
		}
	}
}

// Steps are the steps of both together.
func TestQ8Together(t *testing.T) {
	t.Parallel()
	for name, bytes := range roms(t) {
		draw := lot(9)
		for range 6 {
			m, n := draw.Intn(3000)+1, draw.Intn(3000)+1
			one, both := made(t, bytes), made(t, bytes)
			d, e := newOf(t, one), newOf(t, both)
			does(t, d, fmt.Sprint("step ", m))
			s := does(t, d, fmt.Sprint("step ", n))
			is(t, "Q8: steps", s, does(t, e, fmt.Sprint("step ", m+n)))
			is(t, "Q8: cycles", d.Cycles(), e.Cycles())
			alike(t, fmt.Sprintf("Q8: %s, step %d and step %d", name, m, n), one, both)
			is(t, "Q8: back", does(t, d, fmt.Sprint("back ", m+n)), does(t, e, fmt.Sprint("back ", m+n)))
			alike(t, fmt.Sprintf("Q8: %s, back %d", name, m+n), one, both)
		}
	}
}

// unlisted is the text of a list without its addresses, behind org and the first one.
func unlisted(t *testing.T, list string, from int) string {
	t.Helper()
	source := fmt.Sprintf("org %d\n", from)
	for line := range strings.Lines(list) {
		_, text, found := strings.Cut(line, ": ")
		if !found {
			t.Fatalf("Q9: a line of a list: %q", line)
		}
		source += text
	}
	return source
}

// assembles holds that what list writes makes the bytes that are there.
func assembles(t *testing.T, list string, from int, peek func(int) int) {
	t.Helper()
	image := assembled(t, unlisted(t, list, from))
	if image.Org != from || len(image.Code) < strings.Count(list, "\n") {
		t.Errorf("Q9: it makes %d bytes from %d on, want those from %d on", len(image.Code), image.Org, from)
	}
	for i, v := range image.Code {
		if peek(from+i) != int(v) {
			t.Fatalf("Q9: at %04x it makes %02x, there is %02x:\n%s", from+i, v, peek(from+i), list)
		}
	}
}

// What is listed assembles to what is there: of bytes by lot, from any place of memory.
func TestQ9List(t *testing.T) {
	t.Parallel()
	d, b := game(t)
	draw := lot(99)
	for range 4 {
		for at := 0xc000; at < 0xe000; at++ {
			b.Poke(at, draw.Intn(256))
		}
		for range 150 {
			from := 0xc000 + draw.Intn(0x1f00)
			assembles(t, does(t, d, fmt.Sprintf("list %d %d", from, draw.Intn(64)+1)), from, b.Peek)
		}
	}
}

// Each opcode, with what stands behind it, lists as one instruction or more, which assemble to it.
func TestQ9Opcodes(t *testing.T) {
	t.Parallel()
	d, b := game(t)
	for code := range 256 {
		for second := range 256 {
			if second > 3 && second < 253 && code != 0xcb {
				continue
			}
			for i, v := range []int{code, second, 0xfe - second, 0} {
				b.Poke(0xd000+i, v)
			}
			assembles(t, does(t, d, "list $d000 1"), 0xd000, b.Peek)
		}
	}
}

// At the end of memory no instruction goes on.
func TestQ9End(t *testing.T) {
	t.Parallel()
	d, b := game(t)
	for code := range 256 {
		for back := range 3 {
			from := 0xffff - back
			b.Poke(from, code)
			for at := from + 1; at <= 0xffff; at++ {
				b.Poke(at, 0)
			}
			lines := strings.SplitAfter(does(t, d, fmt.Sprintf("list %d 3", from)), "\n")
			here := ""
			for _, line := range lines {
				if strings.HasPrefix(line, "$ff") {
					here += line
				}
			}
			assembles(t, here, from, b.Peek)
			is(t, "it ends at the end", len(assembled(t, unlisted(t, here, from)).Code), back+1)
		}
	}
	refuses(t, d, b, api.ErrDebugNumber, "list 65536")
}

// What a trace shows of an instruction ahead of it is what list says.
func TestQ9Trace(t *testing.T) {
	t.Parallel()
	for _, bytes := range roms(t) {
		d, e := newOf(t, made(t, bytes)), newOf(t, made(t, bytes))
		for range 60 {
			listed := strings.TrimSuffix(does(t, d, fmt.Sprintf("list %d 1", pcOf(t, d.Do))), "\n")
			traced := does(t, d, "trace 1")
			if !strings.HasPrefix(traced, listed+" ; a=$") || strings.Count(traced, "\n") != 3 {
				t.Fatalf("trace 1 = %q, list says %q", traced, listed)
			}
			stepped := does(t, e, "step")
			if !strings.HasSuffix(traced, "\n"+stepped) {
				t.Fatalf("trace 1 = %q, step says %q", traced, stepped)
			}
		}
	}
}

// pcOf is the address that the registers' line tells.
func pcOf(t *testing.T, do func(string) (string, api.Errno)) int {
	t.Helper()
	s, _ := do("regs")
	_, rest, _ := strings.Cut(s, "pc=")
	return numberIn(rest[:5])
}
