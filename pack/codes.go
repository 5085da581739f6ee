package pack

import (
	"slices"

	"arcade/api"
)

// The longest code's length.
const maxLength = 16

// codeLengths are those of all symbols' codes; 0 for a symbol that has none.
type codeLengths [api.Symbols]int

// weightsOf tells how often each symbol is.
func weightsOf(tokens []token) [api.Symbols]int {
	var weights [api.Symbols]int
	for _, t := range tokens {
		weights[t.symbol()]++
	}
	return weights
}

// inOrder is the symbols that have codes in the order of these: by rising lengths, and of one length by rising symbols.
func (c *codeLengths) inOrder() []int {
	var symbols []int
	for length := 1; length <= maxLength; length++ {
		for symbol, l := range c {
			if l == length {
				symbols = append(symbols, symbol)
			}
		}
	}
	return symbols
}

// numbers are the codes themselves.
func (c *codeLengths) numbers() [api.Symbols]int {
	var codes [api.Symbols]int
	next, length := 0, 0
	for _, symbol := range c.inOrder() {
		next <<= c[symbol] - length
		length = c[symbol]
		codes[symbol] = next
		next++
	}
	return codes
}

// mayBe tells whether there may be codes of these lengths: one alone, of a single bit; or such as fill all there is.
func (c *codeLengths) mayBe() bool {
	many, filled := 0, 0
	for _, length := range c {
		if length > 0 {
			many++
			filled += 1 << (maxLength - length)
		}
	}
	if many == 1 {
		return slices.Max(c[:]) == 1
	}
	return filled == 1<<maxLength
}

// bitsOf is the tokens in these codes, as bytes.
func (c *codeLengths) bitsOf(tokens []token) []byte {
	codes := c.numbers()
	var w bitWriter
	for _, t := range tokens {
		symbol := t.symbol()
		w.write(codes[symbol], c[symbol])
		t.writeTail(&w)
	}
	return w.done()
}
