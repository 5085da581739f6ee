package pack_test

import (
	"bytes"
	"slices"
	"strings"

	"arcade/api"
)

// fault is a thing that is wrong, up to the byte with which it must be told.
type fault struct {
	name  string
	bytes []byte
	why   api.Errno
}

// The lengths of codes that faults are made of.
var (
	alone  = map[int]int{97: 1}                                 // a is 0
	pair   = map[int]int{97: 1, 98: 1}                          // a is 0, b 1
	threes = map[int]int{97: 1, 256: 1}                         // a is 0, a match of 3 is 1
	longs  = map[int]int{97: 1, 263: 1}                         // a is 0, a match of 130 to 257 is 1
	odd    = map[int]int{97: 1, 98: 2, 256: 2}                  // a is 0, b 10, a match of 3 is 11
	steps  = map[int]int{0: 1, 1: 2, 2: 3, 97: 4, 98: 5, 99: 5} // up to 11111
)

// deep is codes of the lengths 1 to 15, and so many of the length 16: with two all is filled.
func deep(many int) map[int]int {
	lengths := map[int]int{}
	for l := 1; l <= 15; l++ {
		lengths[96+l] = l
	}
	for i := range many {
		lengths[200+i] = 16
	}
	return lengths
}

// coded is a block of a table and bits.
func coded(n int, lengths map[int]int, bits string) []byte {
	return codedBytes(n, append(tableBytes(lengths), inBytes(bits)...))
}

// raw is a block of a body as it stands.
func raw(n int, body ...byte) []byte {
	return codedBytes(n, body)
}

// lone is bits for one word in codes.
func lone(lengths map[int]int, w word) string {
	return w.bits(modelCodes(lengths))
}

// flipped is bytes of which one is another one.
func flipped(b []byte, at int, by byte) []byte {
	c := slices.Clone(b)
	c[at] ^= by
	return c
}

// wrongHeads are those of which the last byte is wrong.
func wrongHeads() []fault {
	var list []fault
	for x := range 256 {
		if x != 80 {
			list = append(list, fault{"a head's first byte", []byte{byte(x)}, api.ErrPackHead})
		}
		if x != 1 {
			list = append(list, fault{"a head's second byte", []byte{80, byte(x)}, api.ErrPackHead})
		}
	}
	return list
}

// wrongKinds are kinds that are none, and n out of their bounds.
func wrongKinds() []fault {
	var list []fault
	for x := 3; x < 256; x++ {
		list = append(list, fault{"a kind", []byte{byte(x)}, api.ErrPackBlock})
	}
	for _, kind := range []byte{0, 1} {
		for _, n := range []int{0, 4097, 4098, 8192, 32768, 65535} {
			list = append(list, fault{"an n", append([]byte{kind}, two(n)...), api.ErrPackBlock})
		}
	}
	return list
}

// wrongCodes are blocks whose tables may not be; but for them they were right.
func wrongCodes() []fault {
	all := map[string][]byte{
		"no table":                        raw(1),
		"a table of one byte":             raw(1, 128),
		"a table of 32 bytes":             raw(1, tableBytes(alone)[:32]...),
		"a table without lengths":         raw(1, tableBytes(alone)[:33]...),
		"a table that lacks a byte":       raw(1, tableBytes(odd)[:34]...),
		"a table that lacks many bytes":   raw(1, append(bytes.Repeat([]byte{255}, 33), bytes.Repeat([]byte{0x77}, 131)...)...),
		"no symbol":                       raw(1, make([]byte, 33)...),
		"no symbol, and bits":             raw(1, make([]byte, 40)...),
		"one symbol of two bits":          coded(3, map[int]int{97: 2}, "000000"),
		"one symbol of sixteen bits":      coded(3, map[int]int{97: 16}, strings.Repeat("0", 48)),
		"two symbols, one of them longer": coded(2, map[int]int{97: 1, 98: 2}, "010"),
		"two symbols of two bits":         coded(2, map[int]int{97: 2, 98: 2}, "0001"),
		"two symbols of sixteen bits":     coded(2, map[int]int{97: 16, 98: 16}, strings.Repeat("0", 32)),
		"three symbols of one bit":        coded(2, map[int]int{97: 1, 98: 1, 99: 1}, "01"),
		"three symbols of two bits":       coded(2, map[int]int{97: 2, 98: 2, 99: 2}, "0001"),
		"five symbols of two bits":        coded(2, map[int]int{97: 2, 98: 2, 99: 2, 100: 2, 101: 2}, "0001"),
		"one code of 16 bits too few":     coded(1, deep(1), "0"),
		"one code of 16 bits too many":    coded(1, deep(3), "0"),
		"more than twice too many":        raw(1, append(bytes.Repeat([]byte{255}, 33), make([]byte, 140)...)...),
	}
	for _, half := range []byte{1, 2, 4, 8, 15} {
		for name, lengths := range map[string]map[int]int{"one code": alone, "three codes": odd, "17 codes": deep(2)} {
			table := tableBytes(lengths)
			table[len(table)-1] |= half
			all["a last half that is not 0, of "+name] = raw(1, append(table, 0)...)
		}
	}
	return listed(all, api.ErrPackCode)
}

// wrongBits are blocks whose bits end early, or are not all used up, or are no code's.
func wrongBits() []fault {
	return listed(map[string][]byte{
		"no bits, one symbol":              coded(1, alone, ""),
		"no bits, two symbols":             coded(1, pair, ""),
		"eight bits for nine":              coded(9, alone, "00000000"),
		"eight bits for many":              coded(4096, pair, "01010101"),
		"the end within a code":            coded(3, steps, "11110"+"111"),
		"the end within a code of 16":      coded(1, deep(2), "11111111"),
		"the end behind 15 of 16 bits":     coded(2, deep(2), "0"+"111111111111111"),
		"the end within a length":          coded(200, longs, "00000"+"1"+"11"),
		"the end behind a length":          coded(132, longs, "1"+"0000000"),
		"the end within an exponent":       coded(9, threes, "00000"+"1"+"00"),
		"the end behind an exponent":       coded(9, threes, "000"+"1"+"0001"),
		"the end within a distance":        coded(9, threes, "00"+"1"+"0010"+"0"),
		"a bit 1, one symbol":              coded(1, alone, "1"),
		"a bit 1 behind others":            coded(5, alone, "00001"),
		"a bit 1 of one symbol's":          coded(1, map[int]int{256: 1}, "1"),
		"a rest that is not 0":             coded(3, alone, "00000001"),
		"a rest whose first bit is 1":      coded(3, alone, "0001"),
		"a rest of one bit":                coded(7, pair, "0101010"+"1"),
		"a rest behind a match":            coded(4, threes, "0"+"1"+"0000"+"01"),
		"a byte too many":                  coded(3, alone, "00000000"+"00000000"),
		"a byte too many, not 0":           coded(3, alone, "00000000"+"00000001"),
		"a byte behind eight bits":         coded(8, alone, "00000000"+"00000000"),
		"many bytes too many":              coded(2, pair, "01"+strings.Repeat("0", 800)),
		"a whole code behind the last one": coded(2, pair, "01"+"1"),
	}, api.ErrPackBits)
}

// wrongMatches are blocks with matches that may not be; so many bytes lie ahead of them.
func wrongMatches(ahead int) []fault {
	all := map[string][]byte{
		"j 13, and nothing behind it":      coded(9, threes, "000"+"1"+"1101"),
		"j 14, and nothing behind it":      coded(9, threes, "000"+"1"+"1110"),
		"j 15, and nothing behind it":      coded(9, threes, "000"+"1"+"1111"),
		"j 13, and all its bits":           coded(9, threes, "000"+"1"+"1101"+strings.Repeat("0", 30)),
		"j 15 of a match that is too long": coded(9, longs, "0"+"1"+"1111111"+"1111"),
		"a match beyond its block":         coded(3, threes, "0"+lone(threes, match(3, 1))),
		"a match far beyond its block":     coded(3, longs, "0"+lone(longs, match(257, 1))),
		"a match beyond a long block":      coded(257, longs, "0"+lone(longs, match(257, 1))),
		"a match in the last byte":         coded(2, threes, "0"+lone(threes, match(3, 1))+"00"),
		"a match beyond, and a rest":       coded(3, threes, "0"+lone(threes, match(3, 1))+"11"),
	}
	if ahead < 8190 {
		all["a distance beyond all"] = coded(9, threes, "0"+lone(threes, match(3, ahead+2))+"00000")
		all["a distance beyond all, at the end"] = coded(4, threes, "0"+lone(threes, match(3, ahead+2)))
		all["a distance beyond all, at once"] = coded(9, threes, lone(threes, match(3, ahead+1))+"000000")
		all["the greatest distance"] = coded(9, threes, "0"+lone(threes, match(3, 8191)))
		all["a distance beyond all, one symbol"] = coded(3, map[int]int{256: 1}, "0"+lone(threes, match(3, ahead+1))[1:])
	}
	return listed(all, api.ErrPackMatch)
}

// wrongEnds are sums of which a byte is wrong, and bytes behind the end of what has come.
func wrongEnds(all []byte) []fault {
	end := endBytes(all)
	var list []fault
	for at := 1; at < 5; at++ {
		for _, by := range []byte{1, 128, 255} {
			list = append(list, fault{"a sum", flipped(end, at, by), api.ErrPackSum})
		}
	}
	for _, x := range []byte{0, 1, 2, 3, 80, 255} {
		list = append(list, fault{"a byte behind the end", append(slices.Clone(end), x), api.ErrPackMore})
	}
	return list
}

func listed(all map[string][]byte, why api.Errno) []fault {
	var list []fault
	for name, b := range all {
		list = append(list, fault{name, b, why})
	}
	slices.SortFunc(list, func(a, b fault) int { return strings.Compare(a.name, b.name) })
	return list
}

// beginning is packed bytes that are right, up to the end of a block, and what has come of them.
type beginning struct {
	name         string
	packed, data []byte
}

// beginnings are those behind which faults are put.
func beginnings() []beginning {
	run := coded(259, longs, "0"+lone(longs, match(257, 1))+"0")
	as := bytes.Repeat([]byte("a"), 259)
	some := []byte("some bytes")
	wild := bytes.Repeat([]byte("abcdefgh"), 512)
	head := []byte{80, 1}
	return []beginning{
		{"nothing", head, nil},
		{"one byte", slices.Concat(head, storedBytes([]byte{7})), []byte{7}},
		{"a stored block", slices.Concat(head, storedBytes(some)), some},
		{"a coded block", slices.Concat(head, run), as},
		{"both", slices.Concat(head, run, storedBytes(some), run), slices.Concat(as, some, as)},
		{"more than a match reaches", slices.Concat(head, storedBytes(wild), storedBytes(wild), storedBytes(some)), slices.Concat(wild, wild, some)},
	}
}

// wrong is a fault behind a beginning, of which the data are told all the same.
type wrong struct {
	after beginning
	fault
}

// all is the packed bytes, up to the one with which the fault must be told.
func (w wrong) all() []byte {
	return slices.Concat(w.after.packed, w.bytes)
}

// wrongs are all faults, behind all beginnings.
func wrongs() []wrong {
	var list []wrong
	for _, f := range wrongHeads() {
		list = append(list, wrong{beginning{name: "no head"}, f})
	}
	for _, b := range beginnings() {
		for _, f := range slices.Concat(wrongKinds(), wrongCodes(), wrongBits(), wrongMatches(len(b.data)), wrongEnds(b.data)) {
			list = append(list, wrong{b, f})
		}
	}
	return list
}
