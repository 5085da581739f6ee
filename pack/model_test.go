package pack_test

import (
	"bytes"
	"encoding/binary"
	"fmt"
	"hash/crc32"
	"slices"
	"strconv"
	"strings"

	"arcade/api"
)

// The model packs and unpacks as the document's words say, with lists that are searched and bits that are texts of 0 and 1; one block behind the other.

// word is a token: a literal (of the length 1, without a distance), or a match.
type word struct {
	literal, length, distance int
}

func letter(b byte) word { return word{literal: int(b), length: 1} }

func match(length, distance int) word { return word{length: length, distance: distance} }

// modelTokens are the tokens of the bytes from a place on, up to the end of data.
func modelTokens(data []byte, from int) []word {
	var list []word
	for i := from; i < len(data); {
		w := letter(data[i])
		if i+3 <= len(data) {
			ahead := max(0, i-8191)
			if at := bytes.LastIndex(data[ahead:i+2], data[i:i+3]); at >= 0 {
				w = match(3, i-ahead-at)
				for w.length < 257 && i+w.length < len(data) && data[i+w.length] == data[i+w.length-w.distance] {
					w.length++
				}
			}
		}
		list = append(list, w)
		i += w.length
	}
	return list
}

// power is the exponent of the greatest power of two that is not above n.
func power(n int) int {
	k := 0
	for 2<<k <= n {
		k++
	}
	return k
}

func (w word) symbol() int {
	if w.distance == 0 {
		return w.literal
	}
	return 256 + power(w.length-2)
}

// digits are the lowest bits of a number.
func digits(n, many int) string {
	if many == 0 {
		return ""
	}
	return fmt.Sprintf("%0*b", many, n)
}

// bits is the word in codes.
func (w word) bits(codes map[int]string) string {
	s := codes[w.symbol()]
	if w.distance > 0 {
		k, j := power(w.length-2), power(w.distance)
		s += digits(w.length-2-1<<k, k) + digits(j, 4) + digits(w.distance-1<<j, j)
	}
	return s
}

// modelLengths are the lengths of codes by the symbols' weights.
func modelLengths(weights map[int]int) map[int]int {
	type node struct {
		weight  int
		symbols []int
	}
	lengths := map[int]int{}
	var nodes []node
	for symbol := range 264 {
		if w := weights[symbol]; w > 0 {
			nodes = append(nodes, node{w, []int{symbol}})
		}
	}
	if len(nodes) == 1 {
		lengths[nodes[0].symbols[0]] = 1
		return lengths
	}
	lightest := func() node {
		at := 0
		for i, n := range nodes {
			if n.weight < nodes[at].weight {
				at = i
			}
		}
		n := nodes[at]
		nodes = slices.Delete(nodes, at, at+1)
		return n
	}
	for len(nodes) > 1 {
		a, b := lightest(), lightest()
		both := node{a.weight + b.weight, slices.Concat(a.symbols, b.symbols)}
		for _, symbol := range both.symbols {
			lengths[symbol]++
		}
		nodes = append(nodes, both)
	}
	return lengths
}

// modelCodes are the codes of these lengths.
func modelCodes(lengths map[int]int) map[int]string {
	codes := map[int]string{}
	next, last := 0, 0
	for length := 1; length <= 16; length++ {
		for symbol := range 264 {
			if lengths[symbol] != length {
				continue
			}
			if len(codes) > 0 {
				next = (next + 1) << (length - last)
			}
			last = length
			codes[symbol] = digits(next, length)
		}
	}
	return codes
}

// inBytes is bits as bytes, the rest of the last one 0.
func inBytes(bits string) []byte {
	var b []byte
	for p := range slices.Chunk([]byte(bits), 8) {
		n, err := strconv.ParseUint(string(p)+"00000000"[len(p):], 2, 8)
		if err != nil {
			panic(err)
		}
		b = append(b, byte(n))
	}
	return b
}

// inBits is bytes as bits.
func inBits(b []byte) string {
	var s strings.Builder
	for _, x := range b {
		s.WriteString(digits(int(x), 8))
	}
	return s.String()
}

// tableBytes is a table as it stands in a block.
func tableBytes(lengths map[int]int) []byte {
	var has, halves strings.Builder
	for symbol := range 264 {
		if l := lengths[symbol]; l > 0 {
			has.WriteString("1")
			halves.WriteString(digits(l-1, 4))
		} else {
			has.WriteString("0")
		}
	}
	return append(inBytes(has.String()), inBytes(halves.String())...)
}

// bodyBytes is a table, and words in its codes.
func bodyBytes(lengths map[int]int, words ...word) []byte {
	codes := modelCodes(lengths)
	var bits strings.Builder
	for _, w := range words {
		bits.WriteString(w.bits(codes))
	}
	return append(tableBytes(lengths), inBytes(bits.String())...)
}

func two(n int) []byte { return []byte{byte(n >> 8), byte(n)} }

func storedBytes(b []byte) []byte {
	return slices.Concat([]byte{0}, two(len(b)), b)
}

func codedBytes(n int, body []byte) []byte {
	return slices.Concat([]byte{1}, two(n), two(len(body)), body)
}

// endBytes ends what comes to these bytes.
func endBytes(all []byte) []byte {
	return binary.BigEndian.AppendUint32([]byte{2}, crc32.ChecksumIEEE(all))
}

// modelCoded is the block of the bytes from a place on, coded.
func modelCoded(data []byte, from int) []byte {
	words := modelTokens(data, from)
	weights := map[int]int{}
	for _, w := range words {
		weights[w.symbol()]++
	}
	return codedBytes(len(data)-from, bodyBytes(modelLengths(weights), words...))
}

// modelPack is what Pack must answer.
func modelPack(data []byte) []byte {
	b := []byte{80, 1}
	for from := 0; from < len(data); from += 4096 {
		to := min(len(data), from+4096)
		if coded := modelCoded(data[:to], from); len(coded) < 3+to-from {
			b = append(b, coded...)
		} else {
			b = append(b, storedBytes(data[from:to])...)
		}
	}
	return append(b, endBytes(data)...)
}

// seen is what the model has read of packed bytes: what came of the blocks that are whole, and where each of these ends in the packed bytes; the words of the coded ones (none of a stored one).
type seen struct {
	data  []byte
	ends  []int
	words [][]word
}

// modelUnpack reads packed bytes, up to the first thing that is wrong.
func modelUnpack(b []byte) (seen, api.Errno) {
	s := seen{}
	for i, x := range []byte{80, 1} {
		if i >= len(b) {
			return s, api.ErrPackShort
		}
		if b[i] != x {
			return s, api.ErrPackHead
		}
	}
	at := 2
	has := func(n int) bool { return len(b)-at >= n }
	for {
		switch {
		case !has(1):
			return s, api.ErrPackShort
		case b[at] > 2:
			return s, api.ErrPackBlock
		case b[at] == 2:
			return s, modelEnd(b[at+1:], s.data)
		case !has(3):
			return s, api.ErrPackShort
		}
		n := int(b[at+1])*256 + int(b[at+2])
		if n == 0 || n > 4096 {
			return s, api.ErrPackBlock
		}
		if len(s.data)+n > 262144 {
			return s, api.ErrPackLong
		}
		var words []word
		if b[at] == 0 {
			if !has(3 + n) {
				return s, api.ErrPackShort
			}
			s.data = append(s.data, b[at+3:at+3+n]...)
			at += 3 + n
		} else {
			if !has(5) || !has(5+int(b[at+3])*256+int(b[at+4])) {
				return s, api.ErrPackShort
			}
			m := int(b[at+3])*256 + int(b[at+4])
			data, w, e := modelBody(s.data, n, b[at+5:at+5+m])
			if e != api.OK {
				return s, e
			}
			s.data, words = data, w
			at += 5 + m
		}
		s.ends, s.words = append(s.ends, at), append(s.words, words)
	}
}

func modelEnd(b []byte, all []byte) api.Errno {
	switch {
	case len(b) < 4:
		return api.ErrPackShort
	case binary.BigEndian.Uint32(b) != crc32.ChecksumIEEE(all):
		return api.ErrPackSum
	case len(b) > 4:
		return api.ErrPackMore
	}
	return api.OK
}

// modelTable reads a table: the symbols by their codes, and how many bytes it has.
func modelTable(body []byte) (map[string]int, int, api.Errno) {
	if len(body) < 33 {
		return nil, 0, api.ErrPackCode
	}
	var symbols []int
	for symbol, bit := range inBits(body[:33]) {
		if bit == '1' {
			symbols = append(symbols, symbol)
		}
	}
	size := 33 + (len(symbols)+1)/2
	if len(symbols) == 0 || len(body) < size {
		return nil, 0, api.ErrPackCode
	}
	halves := inBits(body[33:size])
	lengths := map[int]int{}
	filled := 0
	for i, symbol := range symbols {
		n, _ := strconv.ParseInt(halves[4*i:4*i+4], 2, 0)
		lengths[symbol] = int(n) + 1
		filled += 1 << (15 - n)
	}
	alone := len(symbols) == 1 && filled == 32768
	if len(symbols)%2 == 1 && !strings.HasSuffix(halves, "0000") || !alone && (len(symbols) == 1 || filled != 65536) {
		return nil, 0, api.ErrPackCode
	}
	back := map[string]int{}
	for symbol, code := range modelCodes(lengths) {
		back[code] = symbol
	}
	return back, size, api.OK
}

// modelBody reads a table and bits: the bytes of all blocks with these n, and the words.
func modelBody(past []byte, n int, body []byte) ([]byte, []word, api.Errno) {
	symbols, size, e := modelTable(body)
	if e != api.OK {
		return nil, nil, e
	}
	left, short := inBits(body[size:]), false
	take := func(many int) int {
		if short = short || len(left) < many; short || many == 0 {
			return 0
		}
		n, _ := strconv.ParseInt(left[:many], 2, 0)
		left = left[many:]
		return int(n)
	}
	all := slices.Clone(past)
	var words []word
	for len(all) < len(past)+n {
		code, symbol, known := "", 0, false
		for !known {
			if code += strconv.Itoa(take(1)); short || len(symbols) == 1 && code == "1" {
				return nil, nil, api.ErrPackBits
			}
			symbol, known = symbols[code]
		}
		w := letter(byte(symbol))
		if symbol >= 256 {
			k := symbol - 256
			length := 2 + 1<<k + take(k)
			j := take(4)
			if j > 12 {
				return nil, nil, api.ErrPackMatch
			}
			w = match(length, 1<<j+take(j))
		}
		if short {
			return nil, nil, api.ErrPackBits
		}
		if w.distance > len(all) || len(all)+w.length > len(past)+n {
			return nil, nil, api.ErrPackMatch
		}
		all = w.behind(all)
		words = append(words, w)
	}
	if len(left) > 7 || strings.Contains(left, "1") {
		return nil, nil, api.ErrPackBits
	}
	return all, words, api.OK
}

// behind lays what the word stands for behind bytes.
func (w word) behind(all []byte) []byte {
	if w.distance == 0 {
		return append(all, byte(w.literal))
	}
	for range w.length {
		all = append(all, all[len(all)-w.distance])
	}
	return all
}
