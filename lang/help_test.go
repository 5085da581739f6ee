package lang_test

import (
	"strings"
	"testing"

	"arcade/api"
	"arcade/board"
	"arcade/cart"
	"arcade/lang"
)

// plain is a program that does nothing, to stand behind others.
const plain = "fn main(){}"

func is(t *testing.T, what string, got, want any) {
	t.Helper()
	if got != want {
		t.Errorf("%s = %v, want %v", what, got, want)
	}
}

// short is the front of a text, to be told.
func short(text string) string {
	if len(text) > 200 {
		return text[:200] + ".."
	}
	return text
}

// sameRun tells whether two runs went alike.
func sameRun(a, b api.LangRun) bool {
	return a.Kind == b.Kind && a.Value == b.Value && a.Place == b.Place && a.Steps == b.Steps && string(a.Out) == string(b.Out)
}

// checks holds what all calls answer of a source.
func checks(t *testing.T, source string, e api.Errno, place int) {
	t.Helper()
	if at, f := lang.Check(source); f != e || at != place {
		t.Errorf("L1: Check(%q) = %d, %d, want %d, %d", short(source), at, f, place, e)
	}
	text, at, f := lang.Format(source)
	if f != e || at != place || (text == "") != (e != api.OK) {
		t.Errorf("L1: Format(%q) = %q, %d, %d, want %d, %d", short(source), short(text), at, f, place, e)
	}
	// What is wrong with the source is told ahead of what is wrong with the rest.
	want := e
	if e == api.OK {
		want = api.ErrArg
	}
	r, at, f := lang.Run(source, []int{-1}, -1)
	if f != want || at != place || !sameRun(r, api.LangRun{}) {
		t.Errorf("L1: Run(%q) = %v, %d, %d, want %d, %d", short(source), r, at, f, place, want)
	}
	image, at, f := lang.Compile(source)
	if f != e || at != place || (len(image.Code) > 0) != (e == api.OK) || e != api.OK && image.Org != 0 {
		t.Errorf("L1: Compile(%q) = %d bytes at %d, %d, %d, want %d, %d", short(source), len(image.Code), image.Org, at, f, place, e)
	}
}

// right holds that a source is a program.
func right(t *testing.T, source string) {
	t.Helper()
	checks(t, source, api.OK, 0)
}

// wrong holds what is told of a source in which the place is marked by a @, which is taken out.
func wrong(t *testing.T, e api.Errno, marked string) {
	t.Helper()
	front, behind, is := strings.Cut(marked, "@")
	if !is {
		t.Fatalf("no place is marked in %q", marked)
	}
	checks(t, front+behind, e, len(front))
}

// runs is how a run goes that is not refused.
func runs(t *testing.T, source string, in []int, fuel int) api.LangRun {
	t.Helper()
	r, at, e := lang.Run(source, in, fuel)
	if at != 0 || e != api.OK {
		t.Fatalf("Run(%q) = %v, %d, %d", short(source), r, at, e)
	}
	return r
}

// formats is how a source is written that is right.
func formats(t *testing.T, source string) string {
	t.Helper()
	text, at, e := lang.Format(source)
	if at != 0 || e != api.OK {
		t.Fatalf("Format(%q) = %d, %d", short(source), at, e)
	}
	return text
}

// image is what a source that is right is compiled to.
func image(t *testing.T, source string) []byte {
	t.Helper()
	m, at, e := lang.Compile(source)
	if at != 0 || e != api.OK || m.Org != 336 || len(m.Code) == 0 || len(m.Code) > 32432 {
		t.Fatalf("18.5: Compile(%q) = %d bytes at %d, %d, %d", short(source), len(m.Code), m.Org, at, e)
	}
	return m.Code
}

// rom is a cartridge of the type 0 with code from $150 on, to which it leads.
func rom(code []byte) []byte {
	bytes := make([]byte, 32768)
	copy(bytes[0x100:], []byte{0xc3, 0x50, 0x01})
	copy(bytes[0x150:], code)
	for i := range 48 {
		bytes[0x104+i] = byte(7*i*i + 13*i + 206)
	}
	sum := byte(231)
	for _, b := range bytes[0x134:0x14d] {
		sum -= b
	}
	bytes[0x14d] = sum
	return bytes
}

// machine is a new board with what a source is compiled to, and with an input.
func machine(t *testing.T, source string, in []int) *board.Board {
	t.Helper()
	c, e := cart.New(rom(image(t, source)), nil)
	if c == nil || e != api.OK {
		t.Fatalf("cart.New = %d", e)
	}
	b := board.New(c)
	b.Poke(0xc500, len(in))
	b.Poke(0xc501, 0)
	for i, n := range in {
		b.Poke(0xc502+2*i, n%256)
		b.Poke(0xc503+2*i, n/256)
	}
	return b
}

// wordAt is the word at an address.
func wordAt(b *board.Board, at int) int {
	return b.Peek(at) + 256*b.Peek(at+1)
}

// told is what a machine has from $c000 to $c5ff.
func told(b *board.Board) string {
	var bytes []byte
	for at := 0xc000; at < 0xc600; at++ {
		bytes = append(bytes, byte(b.Peek(at)))
	}
	return string(bytes)
}

// outOf is what a machine put out.
func outOf(b *board.Board) string {
	many := wordAt(b, 0xc005)
	if many > 1024 {
		return "too much"
	}
	return told(b)[0x100 : 0x100+many]
}

// machineDoes holds that the machine of a source ends as the run of it did.
func machineDoes(t *testing.T, source string, in []int, r api.LangRun) {
	t.Helper()
	b := machine(t, source, in)
	most := 20000 + 1500*r.Steps
	for done := 0; done < most && b.Peek(0xc000) == 0; {
		many := min(500, most-done)
		b.Run(many)
		done += many
	}
	if got := b.Peek(0xc000); got != r.Kind {
		t.Fatalf("L2: the machine of %q, input %v: state %d behind %d cycles, want %v", source, in, got, most, r)
	}
	was := told(b)
	if wordAt(b, 0xc001) != r.Value || r.Kind == api.LangTrap && wordAt(b, 0xc003) != r.Place || outOf(b) != string(r.Out) {
		t.Fatalf("L2: the machine of %q, input %v: %d, %d at %d, %q, want %v", source, in, r.Kind, wordAt(b, 0xc001), wordAt(b, 0xc003), outOf(b), r)
	}
	b.Run(3000)
	if told(b) != was {
		t.Fatalf("L2: the machine of %q, input %v, did not stay where it ended", source, in)
	}
}

// holds holds all promises of a source that is right, and an input, and tells how it was run.
func holds(t *testing.T, source string, in []int) api.LangRun {
	t.Helper()
	return holdsWithin(t, source, in, 100000)
}

// holdsWithin is that with less fuel.
func holdsWithin(t *testing.T, source string, in []int, fuel int) api.LangRun {
	t.Helper()
	r := runs(t, source, in, fuel)
	if want := modelRun(source, in, fuel); !sameRun(r, want) {
		t.Fatalf("L1: Run(%q, %v, %d) = %v, want %v", source, in, fuel, r, want)
	}
	holdsFormat(t, source, in, r, fuel)
	holdsFuel(t, source, in, r)
	if r.Kind != api.LangFuel {
		machineDoes(t, source, in, r)
	}
	return r
}

// holdsFormat holds what is promised of how a source is written.
func holdsFormat(t *testing.T, source string, in []int, r api.LangRun, fuel int) {
	t.Helper()
	text := formats(t, source)
	if want := modelFormat(source); text != want {
		t.Fatalf("L1: Format(%q) = %q, want %q", source, text, want)
	}
	if len(text) > 2000 {
		checks(t, text, api.ErrLangLong, 0)
		return
	}
	if again := formats(t, text); again != text {
		t.Fatalf("L3: Format(%q) = %q", text, again)
	}
	s := runs(t, text, in, fuel)
	s.Place = r.Place
	if !sameRun(s, r) {
		t.Fatalf("L3: Run of the Format of %q, %v = %v, want %v", source, in, s, r)
	}
}

// holdsFuel holds that a run with less fuel is the beginning of one with more.
func holdsFuel(t *testing.T, source string, in []int, r api.LangRun) {
	t.Helper()
	put := ""
	for fuel := 0; fuel < r.Steps; fuel += 1 + r.Steps/40 {
		s := runs(t, source, in, fuel)
		want := api.LangRun{Kind: api.LangFuel, Out: s.Out, Steps: fuel}
		if !sameRun(s, want) || !strings.HasPrefix(string(s.Out), put) || !strings.HasPrefix(string(r.Out), string(s.Out)) {
			t.Fatalf("L4: Run(%q, %v, %d) = %v, behind %q, of %v", source, in, fuel, s, put, r)
		}
		put = string(s.Out)
	}
	if r.Kind == api.LangFuel {
		return
	}
	if s := runs(t, source, in, r.Steps); !sameRun(s, r) {
		t.Fatalf("L4: Run(%q, %v, %d) = %v, want %v", source, in, r.Steps, s, r)
	}
}
