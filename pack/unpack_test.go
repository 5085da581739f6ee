package pack_test

import (
	"bytes"
	"fmt"
	"maps"
	"math/rand"
	"slices"
	"strings"
	"testing"

	"arcade/api"
)

// The document's examples, back.
func TestK2Examples(t *testing.T) {
	unpacked(t, "nothing", []byte{80, 1, 2, 0, 0, 0, 0}, nil)
	unpacked(t, "abc", []byte{80, 1, 0, 0, 3, 97, 98, 99, 2, 53, 36, 65, 194}, []byte("abc"))
	table := make([]byte, 34)
	table[0], table[32] = 128, 1
	bits := "0" + strings.Repeat("1"+"1111111"+"0000", 15) + "1" + "1101110" + "0000"
	zeros := make([]byte, 4096)
	unpacked(t, "4096 bytes 0", whole(zeros, raw(4096, append(table, inBytes(bits)...)...)), zeros)
}

// Each fault by itself: ahead of its last byte the bytes are too short; with it, and with whatever stands behind, it is told.
func TestK2Wrong(t *testing.T) {
	for _, w := range wrongs() {
		name := w.name + " behind " + w.after.name
		b := w.all()
		refused(t, name, b, w.why)
		refused(t, name+", with more behind it", append(slices.Clone(b), 99, 0, 2, 0), w.why)
		if w.why != api.ErrPackMore {
			refused(t, name+", cut by a byte", b[:len(b)-1], api.ErrPackShort)
		}
	}
}

// Right bytes that are cut at each byte are too short.
func TestK2Short(t *testing.T) {
	for _, b := range [][]byte{
		{80, 1, 2, 0, 0, 0, 0},
		whole([]byte("abc"), storedBytes([]byte("abc"))),
		whole([]byte("abc"), storedBytes([]byte("a")), storedBytes([]byte("bc"))),
		whole([]byte("aaaaaaab"), coded(7, threes, "0"+strings.Repeat(lone(threes, match(3, 1)), 2)), storedBytes([]byte("b"))),
		whole([]byte("abab"), coded(2, pair, "01"), coded(2, pair, "01")),
		modelPack(text(rand.New(rand.NewSource(2)), 600)),
	} {
		if _, e := unpacks(t, b); e != api.OK {
			t.Errorf("K2: Unpack(%s) = %d", short(b), e)
		}
		for n := range b {
			refused(t, fmt.Sprintf("the first %d", n), b[:n], api.ErrPackShort)
		}
	}
	refused(t, "no list", nil, api.ErrPackShort)
}

// Two things are wrong: the first one is told.
func TestK2First(t *testing.T) {
	ahead := []byte{80, 1, 0, 0, 1, 97}
	wrongSum := flipped(endBytes([]byte("a")), 4, 1)
	for _, c := range []struct {
		name string
		b    []byte
		why  api.Errno
	}{
		{"both bytes of the head", []byte{81, 2}, api.ErrPackHead},
		{"the head, and a kind", []byte{80, 2, 9}, api.ErrPackHead},
		{"the head, and cut short", []byte{81}, api.ErrPackHead},
		{"a kind, and n", slices.Concat(ahead, []byte{3, 0, 0}), api.ErrPackBlock},
		{"a kind, and cut short", slices.Concat(ahead, []byte{3}), api.ErrPackBlock},
		{"n, and cut short", slices.Concat(ahead, []byte{0, 16, 1}), api.ErrPackBlock},
		{"n of a coded one, and its table", slices.Concat(ahead, []byte{1, 0, 0, 0, 1, 0}), api.ErrPackBlock},
		{"an n, and the sum", slices.Concat(ahead, []byte{0, 0, 0}, wrongSum), api.ErrPackBlock},
		{"a stored block that is cut", slices.Concat(ahead, []byte{0, 0, 6}, wrongSum), api.ErrPackShort},
		{"a table, and bits", slices.Concat(ahead, coded(3, map[int]int{97: 2}, "")), api.ErrPackCode},
		{"a table, and a match", slices.Concat(ahead, coded(3, map[int]int{97: 1, 256: 2}, "0101111")), api.ErrPackCode},
		{"a table, and the next kind", slices.Concat(ahead, raw(1, 0), []byte{7}), api.ErrPackCode},
		{"a table in a block that is cut", slices.Concat(ahead, []byte{1, 0, 1, 0, 9, 0, 0}), api.ErrPackShort},
		{"bits, then a match", slices.Concat(ahead, coded(9, map[int]int{97: 1}, "1")), api.ErrPackBits},
		{"j above 12, then the bits end", slices.Concat(ahead, coded(9, threes, "000"+"1"+"1101")), api.ErrPackMatch},
		{"the bits end, ahead of a distance that is too great", slices.Concat(ahead, coded(9, threes, "000"+"1"+"1100")), api.ErrPackBits},
		{"the bits end, ahead of a match that is too long", slices.Concat(ahead, coded(1, longs, "1"+"0000000")), api.ErrPackBits},
		{"a match, then a rest", slices.Concat(ahead, coded(2, threes, "0"+lone(threes, match(3, 1))+"11")), api.ErrPackMatch},
		{"a match, then another one's j", slices.Concat(ahead, coded(9, threes, lone(threes, match(3, 2))+"1"+"1111")), api.ErrPackMatch},
		{"bits left over, and the sum", slices.Concat(ahead, coded(1, alone, "01"), wrongSum), api.ErrPackBits},
		{"bits left over in a block that is cut", slices.Concat(ahead, coded(1, alone, "0100000000000000"))[:len(ahead)+5+34+1], api.ErrPackShort},
		{"the sum, and more", slices.Concat(ahead, wrongSum, []byte{0}), api.ErrPackSum},
		{"the sum, cut short", slices.Concat(ahead, wrongSum[:4]), api.ErrPackShort},
		{"more, as if it were packed, too", slices.Concat(ahead, endBytes([]byte("a")), []byte{80, 1, 2, 0, 0, 0, 0}), api.ErrPackMore},
		{"a wrong byte ahead of a wrong table", []byte{80, 1, 5, 1, 0, 1, 0, 0}, api.ErrPackBlock},
	} {
		refused(t, c.name, c.b, c.why)
	}
}

// full is packed bytes of which MaxUnpacked bytes less some come, without an end; and these.
func full(less int) ([]byte, []byte) {
	b := []byte{80, 1}
	data := make([]byte, api.MaxUnpacked-less)
	for p := range slices.Chunk(data, api.MaxBlock) {
		b = append(b, coded(len(p), map[int]int{0: 1}, strings.Repeat("0", len(p)))...)
	}
	return b, data
}

// As many bytes as may come, and more: n says it, whatever stands behind.
func TestK2Long(t *testing.T) {
	b, data := full(0)
	unpacked(t, "all that may be", slices.Concat(b, endBytes(data)), data)
	for _, thing := range [][]byte{{0, 0, 1}, {1, 0, 1}, {0, 16, 0}, {1, 16, 0}, {0, 0, 1, 0}, coded(1, alone, "0"), raw(1, 0), storedBytes([]byte("abc"))} {
		refused(t, "one block more", slices.Concat(b, thing), api.ErrPackLong)
		refused(t, "one block more, and more", slices.Concat(b, thing, endBytes(data)), api.ErrPackLong)
		refused(t, "of one block more its first byte", slices.Concat(b, thing[:1]), api.ErrPackShort)
		refused(t, "of one block more two bytes", slices.Concat(b, thing[:2]), api.ErrPackShort)
	}
	refused(t, "n is wrong, too", slices.Concat(b, []byte{0, 16, 1}), api.ErrPackBlock)
	refused(t, "n is 0", slices.Concat(b, []byte{0, 0, 0}), api.ErrPackBlock)
	refused(t, "a kind that is none", slices.Concat(b, []byte{4}), api.ErrPackBlock)

	b, data = full(10)
	rest := []byte("0123456789")
	unpacked(t, "just the rest", slices.Concat(b, storedBytes(rest), endBytes(append(slices.Clone(data), rest...))), append(slices.Clone(data), rest...))
	refused(t, "the rest and one", slices.Concat(b, []byte{0, 0, 11}), api.ErrPackLong)
	refused(t, "the rest and one, coded", slices.Concat(b, []byte{1, 0, 11}), api.ErrPackLong)
}

// Matches at the edges of what may be.
func TestK2Matches(t *testing.T) {
	wild := lot(rand.New(rand.NewSource(9)), 4096, 256)
	ahead := [][]byte{storedBytes(wild), storedBytes(wild[:4000]), storedBytes(wild[:500])}
	past := slices.Concat(wild, wild[:4000], wild[:500])
	for k := range 8 {
		for _, length := range []int{2 + 1<<k, 2 + 1<<k + 1<<k/2, 1 + 2<<k} {
			for _, d := range []int{1, 2, 3, 4, 7, 8, 100, 255, 256, 4095, 4096, 8190, 8191} {
				lengths := map[int]int{97: 1, 256 + k: 1}
				w := match(length, d)
				data := w.behind(slices.Clone(past))
				b := whole(data, append(ahead, codedBytes(length, bodyBytes(lengths, w)))...)
				unpacked(t, fmt.Sprintf("a match of %d, %d back", length, d), b, data)
			}
		}
	}
	// just what has come, and the block's end
	for many := 1; many < 300; many++ {
		data := match(3, many).behind(slices.Clone(wild[:many]))
		unpacked(t, "all the way back", whole(data, storedBytes(wild[:many]), coded(3, threes, lone(threes, match(3, many)))), data)
	}
}

// One symbol alone, a literal or a match.
func TestK2OneSymbol(t *testing.T) {
	for _, n := range []int{1, 2, 7, 8, 9, 16, 4096} {
		data := bytes.Repeat([]byte("a"), n)
		unpacked(t, "one symbol", whole(data, coded(n, alone, strings.Repeat("0", n))), data)
	}
	data := []byte("xyzxyzxyz")
	lengths := map[int]int{256: 1}
	unpacked(t, "one symbol, a match", whole(data, storedBytes(data[:3]), codedBytes(6, bodyBytes(lengths, match(3, 3), match(3, 6)))), data)
}

// Codes of 16 bits, all of them.
func TestK2Deep(t *testing.T) {
	var words []word
	var data []byte
	for _, symbol := range slices.Sorted(maps.Keys(deep(2))) {
		words = append(words, letter(byte(symbol)))
		data = append(data, byte(symbol))
	}
	unpacked(t, "codes up to 16 bits", whole(data, codedBytes(len(data), bodyBytes(deep(2), words...))), data)
	unpacked(t, "a code of 16 bits", whole([]byte{201}, coded(1, deep(2), strings.Repeat("1", 16))), []byte{201})
	unpacked(t, "a code of 16 bits", whole([]byte{200}, coded(1, deep(2), strings.Repeat("1", 15)+"0")), []byte{200})
	unpacked(t, "a code of 15 bits", whole([]byte{111}, coded(1, deep(2), strings.Repeat("1", 14)+"0")), []byte{111})
}

// All symbols have codes, which is more than Pack needs: 248 of 8 bits, 16 of 9.
func TestK2AllSymbols(t *testing.T) {
	lengths := map[int]int{}
	for symbol := range 264 {
		lengths[symbol] = 8
		if symbol%17 == 3 {
			lengths[symbol] = 9
		}
	}
	var words []word
	var data []byte
	for x := range 256 {
		words = append(words, letter(byte(x)))
	}
	for k := range 8 {
		words = append(words, match(2+1<<k, 1+k))
	}
	for _, w := range words {
		data = w.behind(data)
	}
	unpacked(t, "all symbols", whole(data, codedBytes(len(data), bodyBytes(lengths, words...))), data)
}

// Blocks that Pack does not make: small ones, stored though they were shorter coded, coded though they were shorter stored, literals where matches were.
func TestK2Otherwise(t *testing.T) {
	data := bytes.Repeat([]byte("a"), 1000)
	var ones [][]byte
	for range data {
		ones = append(ones, storedBytes([]byte("a")))
	}
	unpacked(t, "a block a byte", whole(data, ones...), data)
	unpacked(t, "stored", whole(data, storedBytes(data)), data)
	unpacked(t, "literals alone", whole(data, coded(1000, alone, strings.Repeat("0", 1000))), data)
	unpacked(t, "a coded byte", whole([]byte("a"), coded(1, alone, "0")), []byte("a"))
	unpacked(t, "codes that are not used", whole([]byte("aa"), coded(2, odd, "00")), []byte("aa"))
	unpacked(t, "a far match, though a near one is there", whole([]byte("abcabcabc"), storedBytes([]byte("abcabc")), coded(3, threes, lone(threes, match(3, 6)))), []byte("abcabcabc"))
	unpacked(t, "a short match, though it might be longer", whole([]byte("aaaaaaaa"), coded(8, threes, "0"+lone(threes, match(3, 1))+"0"+lone(threes, match(3, 2)))), []byte("aaaaaaaa"))
}

// anyLengths is lengths of codes for symbols, drawn by lot, that fill all there is.
func anyLengths(draw *rand.Rand, symbols []int) map[int]int {
	list := []int{0}
	for len(list) < len(symbols) {
		at := draw.Intn(len(list))
		if draw.Intn(2) == 0 {
			at = len(list) - 1 // so that some are long
		}
		if list[at] < 16 {
			list[at]++
			list = append(list, list[at])
		}
	}
	draw.Shuffle(len(list), func(i, k int) { list[i], list[k] = list[k], list[i] })
	lengths := map[int]int{}
	for i, symbol := range symbols {
		lengths[symbol] = max(list[i], 1)
	}
	return lengths
}

// anyCoded is a coded block with tokens and codes drawn by lot, and what has come with it.
func anyCoded(draw *rand.Rand, past []byte) ([]byte, []byte) {
	all := slices.Clone(past)
	limit := len(past) + []int{1, 5, 60, 4096}[draw.Intn(4)]
	used := map[int]bool{}
	var words []word
	kinds := 1 + draw.Intn(30)
	for len(all) < limit && len(words) < 200 {
		w := letter(byte(draw.Intn(kinds) * 8))
		if room := limit - len(all); room >= 3 && len(all) > 0 && draw.Intn(3) == 0 {
			w = match(3+draw.Intn(min(room, 257)-2), 1+draw.Intn(min(len(all), 8191)))
		}
		words = append(words, w)
		all = w.behind(all)
		used[w.symbol()] = true
	}
	for range draw.Intn(4) {
		used[draw.Intn(264)] = true
	}
	lengths := anyLengths(draw, slices.Sorted(maps.Keys(used)))
	return codedBytes(len(all)-len(past), bodyBytes(lengths, words...)), all
}

// anyPacked is packed bytes drawn by lot that are right, though seldom such as Pack makes, and what comes of them.
func anyPacked(draw *rand.Rand) ([]byte, []byte) {
	b, data := []byte{80, 1}, []byte(nil)
	for range draw.Intn(5) {
		if draw.Intn(2) == 0 {
			some := rows(draw, 1+draw.Intn([]int{1, 30, 4096}[draw.Intn(3)]))
			b, data = append(b, storedBytes(some)...), append(data, some...)
			continue
		}
		var block []byte
		block, data = anyCoded(draw, data)
		b = append(b, block...)
	}
	return append(b, endBytes(data)...), data
}

// Packed by hand, by lot.
func TestK2AnyPacked(t *testing.T) {
	draw := rand.New(rand.NewSource(22))
	for range 600 {
		b, data := anyPacked(draw)
		unpacked(t, "what was packed by lot", b, data)
	}
}

// spoilt is packed bytes of which some is changed by lot.
func spoilt(draw *rand.Rand, b []byte) []byte {
	b = slices.Clone(b)
	for range 1 + draw.Intn(2) {
		if len(b) == 0 {
			break
		}
		at := draw.Intn(len(b))
		if draw.Intn(2) == 0 {
			at = draw.Intn(min(len(b), 60)) // where tables are
		}
		switch draw.Intn(6) {
		case 0:
			b[at] = byte(draw.Intn(256))
		case 1:
			b[at] ^= 1 << draw.Intn(8)
		case 2:
			b = slices.Delete(b, at, at+1)
		case 3:
			b = slices.Insert(b, at, byte(draw.Intn(4)))
		case 4:
			b = b[:at]
		case 5:
			b = append(b, byte(draw.Intn(4)))
		}
	}
	return b
}

// Bytes of which some is wrong by lot, answered as the model does.
func TestK2Spoilt(t *testing.T) {
	draw := rand.New(rand.NewSource(23))
	done := map[api.Errno]int{}
	for range 8000 {
		b, _ := anyPacked(draw)
		b = spoilt(draw, b)
		want, e := modelUnpack(b)
		done[e]++
		if e != api.OK {
			refused(t, "what is spoilt", b, e)
			continue
		}
		unpacked(t, "what is spoilt, and right all the same", b, want.data)
	}
	for _, e := range []api.Errno{api.OK, api.ErrPackHead, api.ErrPackBlock, api.ErrPackCode, api.ErrPackBits, api.ErrPackMatch, api.ErrPackSum, api.ErrPackShort, api.ErrPackMore} {
		if done[e] < 20 {
			t.Errorf("the lot has drawn the answer %d only %d times", e, done[e])
		}
	}
}

// Bodies of which all bits are drawn by lot, behind tables that are right.
func TestK2AnyBits(t *testing.T) {
	draw := rand.New(rand.NewSource(24))
	done := map[api.Errno]int{}
	for range 12000 {
		symbols := draw.Perm(264)[:1+draw.Intn(6)]
		symbols = append(symbols, 256+draw.Intn(8))
		slices.Sort(symbols)
		symbols = slices.Compact(symbols)
		body := append(tableBytes(anyLengths(draw, symbols)), lot(draw, draw.Intn(6), 256)...)
		past := lot(draw, draw.Intn(40), 256)
		blocks := [][]byte{codedBytes(1+draw.Intn(9), body)}
		if len(past) > 0 {
			blocks = slices.Insert(blocks, 0, storedBytes(past))
		}
		b := whole(nil, blocks...)
		want, e := modelUnpack(b)
		if e == api.ErrPackSum {
			b = whole(want.data, blocks...)
			unpacked(t, "any bits", b, want.data)
			e = api.OK
		} else {
			refused(t, "any bits", b, e)
		}
		done[e]++
	}
	if done[api.OK] < 50 || done[api.ErrPackBits] < 500 || done[api.ErrPackMatch] < 500 {
		t.Errorf("the lot has drawn %v", done)
	}
}
