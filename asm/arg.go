package asm

import (
	"strconv"
	"strings"

	"arcade/api"
)

// arg is a kind of number that is written in a statement.
type arg int

const (
	argNone   arg = iota
	argByte       // n
	argSigned     // s
	argReach      // e
	argWord       // w
	argPort       // the n of ldh, which is written as an address
	argVector     // of rst, within the opcode
	argBit        // of bit, res and set, within the opcode
	argPlace      // of org, and how many of ds
)

// argLetters are the letters of the kinds from argByte on in the rules of the tables.
const argLetters = "NSEWHVB"

// argOf tells the kind of number for which a letter of a rule stands.
func argOf(letter rune) arg {
	for i, known := range argLetters {
		if known == letter {
			return argByte + arg(i)
		}
	}
	return argNone
}

// span is from which number to which one.
type span struct {
	least, most int64
}

// bounds are those within which the numbers of each kind may be.
var bounds = [9]span{
	argByte:   {-128, 255},
	argSigned: {-128, 127},
	argReach:  {0, 65535},
	argWord:   {-32768, 65535},
	argPort:   {portBase, 65535},
	argVector: {0, 56},
	argBit:    {0, 7},
	argPlace:  {0, 65535},
}

// portBase is the address from which on ldh counts.
const portBase = 65280

// allowed tells whether a number of this kind may have the value.
func (a arg) allowed(value int64) bool {
	b := bounds[a]
	if value < b.least || value > b.most {
		return false
	}
	return a != argVector || value%8 == 0
}

// store writes a value, which is allowed, to the front of code; end is the address of what follows the instruction.
func (a arg) store(code []byte, value int64, end int) api.Errno {
	switch a {
	case argReach:
		// Addresses go round behind 65535, as the wrap-round of 16 bits does.
		far := int16(value - int64(end))
		if far < -128 || far > 127 {
			return api.ErrAsmReach
		}
		code[0] = byte(far)
	case argWord:
		code[0], code[1] = byte(value), byte(value>>8)
	case argVector:
		code[0] += byte(value)
	case argBit:
		code[0] += byte(value) << 3
	default:
		code[0] = byte(value)
	}
	return api.OK
}

// letter is how an opcode's text without values writes its number.
func (o opcode) letter() string {
	switch o.arg {
	case argByte, argPort:
		return "n"
	case argSigned:
		return "s"
	case argReach:
		return "e"
	case argWord:
		return "w"
	case argVector:
		return hex(o.y*8, 2)
	}
	return strconv.Itoa(o.y)
}

// number is how the number of an instruction with these bytes at this address is written.
func (o opcode) number(code []byte, address int) string {
	switch o.arg {
	case argByte:
		return hex(int(code[1]), 2)
	case argSigned:
		return strconv.Itoa(int(int8(code[1])))
	case argReach:
		return hex(address+o.bytes+int(int8(code[1])), 4)
	case argWord:
		return hex(int(code[1])|int(code[2])<<8, 4)
	case argPort:
		return hex(portBase+int(code[1]), 4)
	}
	return o.letter()
}

// with is the opcode's text with this in the place of its number.
func (o opcode) with(number string) string {
	return strings.Replace(o.text, string(hole), number, 1)
}

// hex writes the lowest digits of a value to the base 16.
func hex(value int, digits int) string {
	text := []byte{'$'}
	for shift := 4 * (digits - 1); shift >= 0; shift -= 4 {
		text = append(text, "0123456789abcdef"[value>>shift&15])
	}
	return string(text)
}
