package pack

import "arcade/api"

// How many bytes say which symbols have codes.
const mapWidth = api.Symbols / 8

// Of a code's length in the table: how many bits it has.
const halfBits = 4

// table is the lengths as they stand in a block.
func (c *codeLengths) table() []byte {
	table := make([]byte, mapWidth)
	var halves bitWriter
	for symbol, length := range c {
		if length > 0 {
			table[symbol/8] |= 128 >> (symbol % 8)
			halves.write(length-1, halfBits)
		}
	}
	return append(table, halves.done()...)
}

// readTable reads the lengths from the front of a block's body: them, and the bits behind them.
func readTable(body []byte) (*codeLengths, []byte, api.Errno) {
	if len(body) < mapWidth {
		return nil, nil, api.ErrPackCode
	}
	symbols := mapped(body[:mapWidth])
	rest := body[mapWidth:]
	bytes := (len(symbols) + 1) / 2
	if len(rest) < bytes {
		return nil, nil, api.ErrPackCode
	}
	halves := bitReader{bytes: rest[:bytes]}
	lengths := &codeLengths{}
	for _, symbol := range symbols {
		half, _ := halves.read(halfBits)
		lengths[symbol] = half + 1
	}
	if !halves.restIsEmpty() || !lengths.mayBe() {
		return nil, nil, api.ErrPackCode
	}
	return lengths, rest[bytes:], api.OK
}

// mapped is the symbols that have codes.
func mapped(bytes []byte) []int {
	var symbols []int
	for symbol := range api.Symbols {
		if bytes[symbol/8]&(128>>(symbol%8)) != 0 {
			symbols = append(symbols, symbol)
		}
	}
	return symbols
}
