package asm

import (
	"unicode/utf8"

	"arcade/api"
)

// wrong is what somebody gives up with who reads a text or works it out: where, and why.
type wrong struct {
	place int
	why   api.Errno
}

func giveUp(place int, why api.Errno) {
	panic(wrong{place, why})
}

// attempt does what may give up, and tells with what it did; wrong{} if it came through.
func attempt(do func()) (with wrong) {
	defer func() {
		switch w := recover().(type) {
		case nil:
		case wrong:
			with = w
		default:
			// No other panic is meant to be here: hiding it would hide a fault of the program.
			panic(w)
		}
	}()
	do()
	return wrong{}
}

// reader goes through a text from the front on.
type reader struct {
	text   string
	at     int
	deep   int  // round brackets that are open
	points bool // names may have points
	steps  []step
}

// none is what comes next at the text's end.
const none rune = -1

// next looks at the rune that comes next. Every sign that counts has one byte, so one of several is none of them.
func (r *reader) next() rune {
	if r.done() {
		return none
	}
	sign, _ := utf8.DecodeRuneInString(r.text[r.at:])
	return sign
}

func (r *reader) done() bool {
	return r.at == len(r.text)
}

// refuse gives up at what comes next.
func (r *reader) refuse() {
	giveUp(r.at, api.ErrAsmText)
}

// take goes on behind a sign, if it comes next.
func (r *reader) take(sign rune) bool {
	if r.next() != sign {
		return false
	}
	r.at++
	return true
}

func (r *reader) expect(sign rune) {
	if !r.take(sign) {
		r.refuse()
	}
}

func (r *reader) skipBlanks() {
skipping:
	for _, sign := range r.text[r.at:] {
		switch sign {
		case ' ', '\t':
			r.at++
		default:
			break skipping
		}
	}
}

// word reads a word, which must be there.
func (r *reader) word() string {
	from := r.at
	if !isLetter(r.next()) {
		r.refuse()
	}
reading:
	for i, sign := range r.text[from:] {
		switch {
		case !isLetter(sign) && digitOf(sign) >= 10:
			break reading
		case i == api.MaxWord:
			r.refuse()
		default:
			r.at++
		}
	}
	return r.text[from:r.at]
}

// digits reads a number to a base of at most 16: one digit at least.
func (r *reader) digits(base int64) int64 {
	from := r.at
	value := int64(0)
reading:
	for _, sign := range r.text[from:] {
		switch digit := digitOf(sign); {
		case digit >= base:
			break reading
		default:
			// However many digits there are, a number that is too great stays so.
			value = min(value*base+digit, tooGreat)
			r.at++
		}
	}
	if r.at == from {
		r.refuse()
	}
	return value
}

func isLetter(sign rune) bool {
	return sign >= 'a' && sign <= 'z' || sign >= 'A' && sign <= 'Z' || sign == '_'
}

// noDigit is no digit to any base.
const noDigit = 16

func digitOf(sign rune) int64 {
	switch {
	case sign >= '0' && sign <= '9':
		return int64(sign - '0')
	case sign >= 'a' && sign <= 'f':
		return int64(sign-'a') + 10
	case sign >= 'A' && sign <= 'F':
		return int64(sign-'A') + 10
	}
	return noDigit
}

// reserved tells whether a word may not be a name.
func reserved(word string) bool {
	switch word {
	case "a", "b", "c", "d", "e", "h", "l", "af", "bc", "de", "hl", "sp", "nz", "z", "nc",
		"add", "adc", "sub", "sbc", "and", "xor", "or", "cp",
		"rlc", "rrc", "rl", "rr", "sla", "sra", "swap", "srl",
		"rlca", "rrca", "rla", "rra", "daa", "cpl", "scf", "ccf",
		"nop", "ld", "stop", "jr", "inc", "dec", "halt", "ret", "ldh", "pop", "reti", "jp",
		"di", "ei", "call", "push", "rst", "bit", "res", "set",
		"db", "dw", "ds", "org", "equ", "high", "low":
		return true
	}
	return false
}
