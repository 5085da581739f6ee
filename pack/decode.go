package pack

import "arcade/api"

// codeReader finds symbols by their codes.
type codeReader struct {
	symbols []int              // in the order of their codes
	many    [maxLength + 1]int // codes of each length
}

func readerOf(c *codeLengths) *codeReader {
	r := &codeReader{symbols: c.inOrder()}
	for _, symbol := range r.symbols {
		r.many[c[symbol]]++
	}
	return r
}

// next reads a symbol's code. Bits that are no code's beginning are there only where one symbol alone has a code.
func (c *codeReader) next(r *bitReader) (int, api.Errno) {
	code, first, ahead := 0, 0, 0 // the first code of this length, and how many codes are shorter
	for length := 1; length <= maxLength; length++ {
		bit, e := r.read(1)
		if e != api.OK {
			return 0, e
		}
		code = code<<1 | bit
		if code-first < c.many[length] {
			return c.symbols[ahead+code-first], api.OK
		}
		ahead += c.many[length]
		first = (first + c.many[length]) << 1
	}
	return 0, api.ErrPackBits
}

// decoded lays the bytes of a coded block, so many, behind all that has come.
func decoded(past []byte, many int, body []byte) ([]byte, api.Errno) {
	lengths, rest, e := readTable(body)
	if e != api.OK {
		return nil, e
	}
	codes, r := readerOf(lengths), &bitReader{bytes: rest}
	for end := len(past) + many; len(past) < end; {
		symbol, e := codes.next(r)
		if e != api.OK {
			return nil, e
		}
		t, e := tokenBehind(symbol, r)
		if e != api.OK {
			return nil, e
		}
		if t.distance > len(past) || t.length > end-len(past) {
			return nil, api.ErrPackMatch
		}
		past = t.laidBehind(past)
	}
	if !r.restIsEmpty() {
		return nil, api.ErrPackBits
	}
	return past, api.OK
}
