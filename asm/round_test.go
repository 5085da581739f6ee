package asm_test

import (
	"bytes"
	"fmt"
	"math/rand"
	"strings"
	"testing"

	"arcade/api"
	"arcade/asm"
)

// instructions are those of an opcode with some numbers behind it.
func instructions(number int, o opText) [][]byte {
	if number >= 256 {
		return [][]byte{{203, byte(number)}}
	}
	if o.text == "stop" {
		return [][]byte{{byte(number), 0}}
	}
	var all [][]byte
	for _, behind := range [][]byte{{0x00, 0x00}, {0x7f, 0x12}, {0x80, 0xff}, {0xff, 0x80}} {
		all = append(all, append([]byte{byte(number)}, behind...)[:o.size(number)])
	}
	return all
}

func TestP23TextAlone(t *testing.T) {
	t.Parallel()
	for number, o := range writtenOnce() {
		if o.text == "" {
			continue
		}
		for _, code := range instructions(number, o) {
			for _, org := range []int{0, 1000, 65536 - len(code)} {
				textAlone(t, code, org)
			}
		}
	}
}

func textAlone(t *testing.T, code []byte, org int) {
	t.Helper()
	ins, e := asm.Disasm(code, 0, org)
	if e != api.OK || ins.Bytes != len(code) {
		t.Fatalf("P2.3: Disasm(% x, 0, %d) = %+v, %d", code, org, ins, e)
	}
	m := mustAssemble(t, fmt.Sprintf("org %d\n%s", org, ins.Text))
	if m.Org != org || !bytes.Equal(m.Code, code) {
		t.Fatalf("P2.3: % x at %d is %q, and that is % x at %d", code, org, ins.Text, m.Code, m.Org)
	}
}

// thereAndBack lists code and assembles that.
func thereAndBack(t *testing.T, code []byte, org int) {
	t.Helper()
	text, e := asm.Listing(code, org)
	if e != api.OK {
		t.Fatalf("P2.3: Listing of %d bytes at %d: error %d", len(code), org, e)
	}
	m, line, e := asm.Assemble(text)
	if strings.Count(text, "\n") > 1000 || len(text) > 16000 {
		if len(m.Code) != 0 || line != 0 || e != api.ErrAsmLong {
			t.Fatalf("P2.3: a listing of %d bytes is no source, but error %d", len(text), e)
		}
		return
	}
	if len(code) == 0 {
		org = 0
	}
	if m.Org != org || !bytes.Equal(m.Code, code) || line != 0 || e != api.OK {
		t.Fatalf("P2.3: % x at %d is listed as %q, and that is % x at %d, line %d, error %d", code, org, text, m.Code, m.Org, line, e)
	}
}

func TestP23Listing(t *testing.T) {
	for number := range 256 {
		var code []byte
		for second := range 256 {
			code = append(code, byte(number), byte(second), byte(number+second))
		}
		thereAndBack(t, code, []int{0, 5000, 65536 - len(code)}[number%3])
	}
	r := rand.New(rand.NewSource(5))
	for k := range 200 {
		code := someBytes(r, r.Intn(300))
		thereAndBack(t, code, []int{0, r.Intn(65236), 65536 - len(code)}[k%3]%65536)
	}
	for _, n := range []int{0, 1, 998, 999, 1000, 4096} {
		thereAndBack(t, make([]byte, n), 0)
		thereAndBack(t, bytes.Repeat([]byte{0xd3}, n), 100)
	}
	for _, n := range []int{998, 999, 1000} {
		thereAndBack(t, bytes.Repeat([]byte{0xc4, 0x34, 0x12}, n), 200)
	}
}

// A program here is lines of words, each of which may have blanks round it.
type program [][]string

// someProgram draws lines that are right, with names that begin with a letter, and numbers that stand alone as words.
func someProgram(r *rand.Rand, letter string, n int) program {
	var p program
	labels := []string{letter + "0"}
	p = append(p, []string{letter + "0", ":"})
	for i := 1; i <= n; i++ {
		var line []string
		switch r.Intn(4) {
		case 0:
			labels = append(labels, fmt.Sprintf("%s%d", letter, i))
			line = append(line, labels[len(labels)-1], ":")
		case 1:
			line = append(line, fmt.Sprintf(".L%d", i), ":")
			labels = append(labels, lastLabel(labels)+fmt.Sprintf(".L%d", i))
		}
		p = append(p, append(line, someStatement(r, labels)...))
	}
	return p
}

func lastLabel(labels []string) string {
	name, _, _ := strings.Cut(labels[len(labels)-1], ".")
	return name
}

// someStatement speaks of names by their lowest bytes and by sums that are within the bounds of a word, so that it is right wherever it stands.
func someStatement(r *rand.Rand, labels []string) []string {
	label := labels[r.Intn(len(labels))]
	number := fmt.Sprint(r.Intn(256))
	statements := [][]string{
		{"nop"}, {"ld", "a", ",", number}, {"ld", "[", "hl", "+", "]", ",", "a"}, {"ld", "bc", ",", label}, {"ld", "hl", ",", "sp", "+", fmt.Sprint(r.Intn(128))}, {"add", "sp", ",", "-", "5"}, {"jp", "nz", ",", label}, {"call", label}, {"jr", "@", "+", fmt.Sprint(r.Intn(100))},
		{"db", number, ",", "low", "(", label, ")"}, {"dw", label, ",", "(", number, "+", "1", ")", "*", "2"}, {"ds", fmt.Sprint(r.Intn(9))}, {"ds", fmt.Sprint(r.Intn(9)), ",", number}, {"db", `"a;b"`, ",", "';'", ",", `"'"`}, {"bit", fmt.Sprint(r.Intn(8)), ",", "[", "hl", "]"}, {"rst", fmt.Sprint(8 * r.Intn(8))}, {"ldh", "a", ",", "[", "$ff00", "|", number, "]"}, {"db", "1", "<<", fmt.Sprint(r.Intn(8))}, {"xor", "a", ",", "~", number, "&", "255"}, nil,
	}
	return statements[r.Intn(len(statements))]
}

// plain writes a program with the blanks alone that must be.
func (p program) plain() string {
	var s strings.Builder
	for _, line := range p {
		for i, word := range line {
			if i > 0 && wordByte(line[i-1][len(line[i-1])-1]) && (wordByte(word[0]) || word[0] == '.') {
				s.WriteString(" ")
			}
			s.WriteString(word)
		}
		s.WriteString("\n")
	}
	return s.String()
}

// loose writes a program with more blanks, comments and empty lines.
func (p program) loose(r *rand.Rand) string {
	blanks := func(least int) string {
		return strings.Repeat([]string{" ", "\t", " \t "}[r.Intn(3)], least+r.Intn(3))
	}
	var s strings.Builder
	for _, line := range p {
		for range r.Intn(2) {
			s.WriteString(blanks(0) + []string{"", "; nop", ";\"'; x: nop"}[r.Intn(3)] + "\n")
		}
		for _, word := range line {
			s.WriteString(blanks(1) + word)
		}
		s.WriteString(blanks(0) + []string{"", "; nop", ";", "; \"", ";'", ";;\xff\r"}[r.Intn(6)] + "\n")
	}
	return strings.TrimSuffix(s.String(), "\n")
}

func TestP25Blanks(t *testing.T) {
	t.Parallel()
	r := rand.New(rand.NewSource(6))
	for range 500 {
		p := someProgram(r, "x", 1+r.Intn(20))
		want := mustAssemble(t, p.plain())
		if got := mustAssemble(t, p.loose(r)); got.Org != want.Org || !bytes.Equal(got.Code, want.Code) {
			t.Fatalf("P2.5: with blanks %q makes % x, not % x", p.plain(), got.Code, want.Code)
		}
		wantNames, _, _ := asm.Names(p.plain())
		names, _, _ := asm.Names(p.loose(r))
		if strings.Join(nameList(names), ",") != strings.Join(nameList(wantNames), ",") {
			t.Fatalf("P2.5: with blanks %q has the names %v, not %v", p.plain(), names, wantNames)
		}
	}
	checkErrors(t, "P2.5", []errorCase{{"\n; c\n\t\nnop\n\njr zz ; c\n", 6, 24}, {"; c\n\n  ld  a \n", 3, 23}})
}

// named puts a name in the place of each number, and each name's value ahead of all.
func (p program) named(numbersOf func(word string) bool) program {
	var ahead, changed program
	known := map[string]string{}
	for _, line := range p {
		var words []string
		for _, word := range line {
			if numbersOf(word) {
				if known[word] == "" {
					known[word] = fmt.Sprintf("number%d", len(known))
					ahead = append(ahead, []string{known[word], "equ", word})
				}
				word = known[word]
			}
			words = append(words, word)
		}
		changed = append(changed, words)
	}
	return append(ahead, changed...)
}

// unnamed puts values in the place of names, but for those of labels.
func (p program) unnamed(names []api.Name) program {
	var changed program
	for _, line := range p {
		var words []string
		for i, word := range line {
			for _, n := range names {
				if n.Name == word && (i+1 == len(line) || line[i+1] != ":") {
					word = fmt.Sprint(n.Value)
				}
			}
			words = append(words, word)
		}
		changed = append(changed, words)
	}
	return changed
}

func TestP25Names(t *testing.T) {
	t.Parallel()
	isNumber := func(word string) bool { return word[0] >= '0' && word[0] <= '9' || word[0] == '$' || word == "';'" }
	r := rand.New(rand.NewSource(7))
	for range 500 {
		p := someProgram(r, "x", 1+r.Intn(20))
		want := mustAssemble(t, p.plain())
		names, _, _ := asm.Names(p.plain())
		for _, changed := range []program{p.named(isNumber), p.unnamed(names), p.unnamed(names).named(isNumber)} {
			if got := mustAssemble(t, changed.plain()); got.Org != want.Org || !bytes.Equal(got.Code, want.Code) {
				t.Fatalf("P2.5: with other names %q makes % x, not % x", changed.plain(), got.Code, want.Code)
			}
		}
	}
}

func TestP26OneBehindTheOther(t *testing.T) {
	t.Parallel()
	r := rand.New(rand.NewSource(8))
	for k := range 500 {
		ahead := ""
		if k%2 == 0 {
			ahead = fmt.Sprintf("org %d\n", r.Intn(60000))
		}
		one := ahead + "db 1\n" + someProgram(r, "x", r.Intn(12)).plain()
		if k%5 == 0 {
			one += "org @ + 7\n"
		}
		two := someProgram(r, "y", r.Intn(12)).plain()
		first := mustAssemble(t, one)
		end := first.Org + len(first.Code)
		second := mustAssemble(t, fmt.Sprintf("org %d\n%s", end, two))
		both := mustAssemble(t, one+two)
		if both.Org != first.Org || !bytes.Equal(both.Code, append(first.Code[:len(first.Code):len(first.Code)], second.Code...)) {
			t.Fatalf("P2.6: %q and then %q make % x at %d, not % x and % x", one, two, both.Code, both.Org, first.Code, second.Code)
		}
		if len(second.Code) > 0 && second.Org != end {
			t.Fatalf("P2.6: %q behind %d begins at %d", two, end, second.Org)
		}
	}
}
