package asm

import "strings"

// The rows of words of which the texts of opcodes are made.
var (
	rowR   = [8]string{"b", "c", "d", "e", "h", "l", "[hl]", "a"}
	rowRP  = [4]string{"bc", "de", "hl", "sp"}
	rowRQ  = [4]string{"bc", "de", "hl", "af"}
	rowCC  = [4]string{"nz", "z", "nc", "c"}
	rowALU = [8]string{"add", "adc", "sub", "sbc", "and", "xor", "or", "cp"}
	rowROT = [8]string{"rlc", "rrc", "rl", "rr", "sla", "sra", "swap", "srl"}
	rowACC = [8]string{"rlca", "rrca", "rla", "rra", "daa", "cpl", "scf", "ccf"}
	rowM   = [4]string{"[bc]", "[de]", "[hl+]", "[hl-]"}
)

// Which y a rule speaks of: bit y of its set.
const (
	even  = 0b01010101 // q = 0
	odd   = 0b10101010 // q = 1
	lower = 0b00001111
	upper = 0b11110000
	every = 0b11111111
)

// anyZ is the z of a rule that speaks of all of them; the rules ahead of it go first.
const anyZ = -1

// rule is a line of the document's tables. Small letters and signs of its text stand for themselves; capital letters stand for words of the rows, and for numbers: see fill and argOf.
type rule struct {
	z      int
	ys     byte
	text   string
	bytes  int
	cycles int
	taken  int
	more   int // clocks more, where the word of R is [hl]
}

// firstTable has the rules of the opcodes 64 x to 64 x + 63.
func firstTable(x int) []rule {
	switch x {
	case 0:
		return []rule{
			{0, 1 << 0, "nop", 1, 4, 4, 0},
			{0, 1 << 1, "ld [W], sp", 3, 20, 20, 0},
			{0, 1 << 2, stopText, 2, 8, 8, 0},
			{0, 1 << 3, "jr E", 2, 12, 12, 0},
			{0, upper, "jr C, E", 2, 8, 12, 0},
			{1, even, "ld P, W", 3, 12, 12, 0},
			{1, odd, "add hl, P", 1, 8, 8, 0},
			{2, even, "ld M, a", 1, 8, 8, 0},
			{2, odd, "ld a, M", 1, 8, 8, 0},
			{3, even, "inc P", 1, 8, 8, 0},
			{3, odd, "dec P", 1, 8, 8, 0},
			{4, every, "inc R", 1, 4, 4, 8},
			{5, every, "dec R", 1, 4, 4, 8},
			{6, every, "ld R, N", 2, 8, 8, 4},
			{7, every, "U", 1, 4, 4, 0},
		}
	case 1:
		return []rule{
			{6, 1 << 6, "halt", 1, 4, 4, 0},
			{anyZ, every, "ld R, Z", 1, 4, 4, 4},
		}
	case 2:
		return []rule{{anyZ, every, "A a, Z", 1, 4, 4, 4}}
	}
	return lastRules()
}

// lastRules are those of the opcodes from 192 on. What none of them speaks of is no opcode; 203 too, which leads to the second table.
func lastRules() []rule {
	return []rule{
		{0, lower, "ret C", 1, 8, 20, 0},
		{0, 1 << 4, "ldh [H], a", 2, 12, 12, 0},
		{0, 1 << 5, "add sp, S", 2, 16, 16, 0},
		{0, 1 << 6, "ldh a, [H]", 2, 12, 12, 0},
		{0, 1 << 7, "ld hl, sp+S", 2, 12, 12, 0},
		{1, even, "pop Q", 1, 12, 12, 0},
		{1, 1 << 1, "ret", 1, 16, 16, 0},
		{1, 1 << 3, "reti", 1, 16, 16, 0},
		{1, 1 << 5, "jp hl", 1, 4, 4, 0},
		{1, 1 << 7, "ld sp, hl", 1, 8, 8, 0},
		{2, lower, "jp C, W", 3, 12, 16, 0},
		{2, 1 << 4, "ldh [c], a", 1, 8, 8, 0},
		{2, 1 << 5, "ld [W], a", 3, 16, 16, 0},
		{2, 1 << 6, "ldh a, [c]", 1, 8, 8, 0},
		{2, 1 << 7, "ld a, [W]", 3, 16, 16, 0},
		{3, 1 << 0, "jp W", 3, 16, 16, 0},
		{3, 1 << 6, "di", 1, 4, 4, 0},
		{3, 1 << 7, "ei", 1, 4, 4, 0},
		{4, lower, "call C, W", 3, 12, 24, 0},
		{5, even, "push Q", 1, 16, 16, 0},
		{5, 1 << 1, "call W", 3, 24, 24, 0},
		{6, every, "A a, N", 2, 8, 8, 0},
		{7, every, "rst V", 1, 16, 16, 0},
	}
}

// secondTable has the rule of the opcodes 64 x to 64 x + 63 behind a 203.
func secondTable(x int) []rule {
	switch x {
	case 0:
		return []rule{{anyZ, every, "T Z", 2, 8, 8, 8}}
	case 1:
		return []rule{{anyZ, every, "bit B, Z", 2, 8, 8, 4}}
	case 2:
		return []rule{{anyZ, every, "res B, Z", 2, 8, 8, 8}}
	}
	return []rule{{anyZ, every, "set B, Z", 2, 8, 8, 8}}
}

// toSecond is the byte that leads to the second table.
const toSecond = 203

// stopText is the text of the one opcode whose second byte is fixed.
const stopText = "stop"

// hole stands in an opcode's text where a number is to be written.
const hole = '#'

// opcode is what the tables say of one: its text, with a hole in the place of its number; which kind of number that is; and its y, of which rst and bit have theirs.
type opcode struct {
	text   string
	arg    arg
	y      int
	bytes  int
	cycles int
	taken  int
}

// lookUp tells what an opcode is, and whether it is one.
func lookUp(code int, second bool) (opcode, bool) {
	x, y, z := code>>6, code>>3&7, code&7
	table := firstTable
	if second {
		table = secondTable
	}
	for _, r := range table(x) {
		if (r.z == z || r.z == anyZ) && r.ys>>y&1 == 1 {
			return r.opcode(y, z), true
		}
	}
	return opcode{}, false
}

func (r rule) opcode(y, z int) opcode {
	text, number := fill(r.text, y, z)
	o := opcode{text, number, y, r.bytes, r.cycles, r.taken}
	if strings.Contains(text, rowR[6]) {
		o.cycles += r.more
		o.taken += r.more
	}
	return o
}

// fill puts words of the rows in the place of their letters, and a hole in the place of a number.
func fill(text string, y, z int) (string, arg) {
	var filled strings.Builder
	number := argNone
	for _, letter := range text {
		if kind := argOf(letter); kind != argNone {
			number = kind
			letter = hole
		}
		filled.WriteString(wordOf(letter, y, z))
	}
	return filled.String(), number
}

// wordOf tells the word of the rows for which a letter of a rule stands; all others stand for themselves.
func wordOf(letter rune, y, z int) string {
	switch letter {
	case 'R':
		return rowR[y]
	case 'Z':
		return rowR[z]
	case 'P':
		return rowRP[y/2]
	case 'Q':
		return rowRQ[y/2]
	case 'M':
		return rowM[y/2]
	case 'C':
		return rowCC[y%4]
	case 'A':
		return rowALU[y]
	case 'T':
		return rowROT[y]
	case 'U':
		return rowACC[y]
	}
	return string(letter)
}

// tableSize is how many opcodes a table has.
const tableSize = 256

// forms tells of each instruction's text, with a hole in the place of its number, which is the first opcode that is written so; those of the second table are tableSize more.
func forms() map[string]int {
	found := make(map[string]int, 2*tableSize)
	for code := range 2 * tableSize {
		op, ok := lookUp(code%tableSize, code >= tableSize)
		if _, there := found[op.text]; ok && !there {
			found[op.text] = code
		}
	}
	return found
}
