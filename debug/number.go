package debug

import (
	"strconv"
	"strings"
)

// The greatest numbers of one bit, of bytes and of words.
const (
	topBit  = 1
	topByte = 255
	topWord = 65535
)

// How many digits a number has at most, to each of the bases.
const (
	mostDecimal = 7
	mostHex     = 6
)

// numberOf is the number that a word writes, and whether it writes one.
func numberOf(word string) (int, bool) {
	base, most := 10, mostDecimal
	digits, isHex := strings.CutPrefix(word, "$")
	if isHex {
		base, most = 16, mostHex
	}
	n, err := strconv.ParseUint(digits, base, 32)
	if err != nil || len(digits) > most {
		return 0, false
	}
	return int(n), true
}

// digits writes a number to the base 16, with so many digits.
func digits(n, many int) string {
	text := strconv.FormatInt(int64(n), 16)
	return strings.Repeat("0", many-len(text)) + text
}

func byteText(n int) string {
	return "$" + digits(n, 2)
}

func wordText(n int) string {
	return "$" + digits(n, 4)
}

// bytesText writes bytes by their digits alone, with a blank between.
func bytesText(list []byte) string {
	texts := make([]string, len(list))
	for i, b := range list {
		texts[i] = digits(int(b), 2)
	}
	return strings.Join(texts, " ")
}

// The check sum is reckoned with the lowest bit first.
const sumPolynomial = 0xedb88320

// sumOf is the check sum of bytes.
func sumOf(list []byte) int {
	sum := ^uint32(0)
	for _, b := range list {
		sum ^= uint32(b)
		for range 8 {
			low := sum & 1
			sum = sum>>1 ^ low*sumPolynomial
		}
	}
	return int(^sum)
}
