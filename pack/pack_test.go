package pack_test

import (
	"bytes"
	"encoding/binary"
	"fmt"
	"hash/crc32"
	"math/rand"
	"slices"
	"testing"

	"arcade/api"
	"arcade/pack"
)

// The numbers of the document.
func TestK1Constants(t *testing.T) {
	if api.MaxUnpacked != 262144 || api.MaxBlock != 4096 || api.MaxBack != 8191 || api.MaxMatch != 257 || api.Symbols != 264 {
		t.Error("R6: other bounds")
	}
	for i, e := range []api.Errno{api.ErrPackHead, api.ErrPackBlock, api.ErrPackCode, api.ErrPackBits, api.ErrPackMatch, api.ErrPackSum, api.ErrPackLong, api.ErrPackShort, api.ErrPackMore, api.ErrPackBase} {
		if int(e) != 151+i {
			t.Errorf("R6: the error %d has the number %d", i, e)
		}
	}
}

// slowSum is the sum, bit by bit, as the document says it.
func slowSum(data []byte) int {
	sum := 4294967295
	for _, b := range data {
		sum ^= int(b)
		for range 8 {
			if sum%2 == 1 {
				sum = sum/2 ^ 3988292384
			} else {
				sum /= 2
			}
		}
	}
	return sum ^ 4294967295
}

func TestK1Sum(t *testing.T) {
	for _, c := range []struct {
		data string
		want int
	}{
		{"", 0}, {"abc", 891568578}, {"123456789", 0xcbf43926}, {"\x00\x00\x00\x00", 0x2144df1c}, {"\xff\xff\xff\xff", 0xffffffff}, {"\x00", 0xd202ef8d}, {"a", 0xe8b7be43},
	} {
		in := roomy([]byte(c.data))
		if n := pack.Sum(in); n != c.want || slowSum(in) != c.want {
			t.Errorf("K1: Sum(%q) = %d, want %d", c.data, n, c.want)
		}
		kept(t, "Sum", in, []byte(c.data))
	}
	draw := rand.New(rand.NewSource(1))
	for n := range 300 {
		b := lot(draw, n, 256)
		if got := pack.Sum(b); got != slowSum(b) || got != int(crc32.ChecksumIEEE(b)) {
			t.Errorf("K1: Sum(%s) = %d, want %d", short(b), got, slowSum(b))
		}
	}
	for x := range 256 {
		if got, want := pack.Sum([]byte{byte(x)}), slowSum([]byte{byte(x)}); got != want {
			t.Errorf("K1: Sum of the byte %d = %d, want %d", x, got, want)
		}
	}
	long := lot(draw, api.MaxUnpacked+1, 256) // a sum has no bound
	if got := pack.Sum(long); got != int(crc32.ChecksumIEEE(long)) {
		t.Errorf("K1: Sum of %d bytes = %d", len(long), got)
	}
}

// The document's examples, byte for byte.
func TestK1Examples(t *testing.T) {
	same(t, "K1: nothing", packed(t, "nothing", nil), []byte{80, 1, 2, 0, 0, 0, 0})
	same(t, "K1: nothing", packed(t, "nothing", []byte{}), []byte{80, 1, 2, 0, 0, 0, 0})
	same(t, "K1: abc", packed(t, "abc", []byte("abc")), []byte{80, 1, 0, 0, 3, 97, 98, 99, 2, 53, 36, 65, 194})
	b := packed(t, "4096 bytes 0", make([]byte, 4096))
	if m := 33 + 1 + 25; !bytes.Equal(b[:7], []byte{80, 1, 1, 16, 0, 0, byte(m)}) || len(b) != 7+m+5 {
		t.Errorf("K1: Pack of 4096 bytes 0 = %s", short(b))
	}
	words := []word{letter(0)}
	for range 15 {
		words = append(words, match(257, 1))
	}
	words = append(words, match(240, 1))
	if got := read(t, b).words; len(got) != 1 || !slices.Equal(got[0], words) {
		t.Errorf("15.3: tokens of 4096 bytes 0: %v", got)
	}
}

// One byte, each of them, is stored.
func TestK1OneByte(t *testing.T) {
	for x := range 256 {
		want := binary.BigEndian.AppendUint32([]byte{80, 1, 0, 0, 1, byte(x), 2}, uint32(slowSum([]byte{byte(x)})))
		same(t, "K1: one byte", packed(t, "one byte", []byte{byte(x)}), want)
	}
}

// Bytes of all kinds and of many lengths, as the model packs them.
func TestK1Samples(t *testing.T) {
	for i, n := range []int{2, 3, 4, 5, 10, 40, 41, 100, 300, 1000, 4093, 4094, 4095, 4096, 4097, 4098, 4099, 8190, 8191, 8192, 8193, 12288, 12289, 20000} {
		for _, s := range samples(int64(i), n) {
			packed(t, fmt.Sprintf("%s, %d", s.name, n), s.data)
		}
	}
}

// Small rows of few bytes, all there are.
func TestK1SmallRows(t *testing.T) {
	for n := range 7 {
		for k := range 1 << (2 * n) {
			b := make([]byte, n)
			for i := range b {
				b[i] = byte(k >> (2 * i) & 3)
			}
			packed(t, "a small row", b)
		}
	}
}

// As many bytes as may be, and one more.
func TestK1Long(t *testing.T) {
	for _, s := range samples(7, api.MaxUnpacked)[:3] {
		packed(t, s.name, s.data)
	}
	for _, n := range []int{1, 2, 4096, 100000} {
		if b, e := packs(t, make([]byte, api.MaxUnpacked+n)); len(b) != 0 || e != api.ErrPackLong {
			t.Errorf("K1: Pack of %d bytes too many = %s, %d", n, short(b), e)
		}
	}
}

// laid is bytes 0 of which some are others: rows at places.
func laid(many int, rows map[int]string) []byte {
	b := make([]byte, many)
	for at, row := range rows {
		copy(b[at:], row)
	}
	return b
}

// tokenIs holds which token stands at a place.
func tokenIs(t *testing.T, which string, data []byte, place int, want word) {
	t.Helper()
	b := packed(t, which, data)
	if got := wordAt(t, b, place); got != want {
		t.Errorf("15.3: %s: at %d stands %v, want %v", which, place, got, want)
	}
}

// Which match is taken: its distance, its length.
func TestK1Matches(t *testing.T) {
	tokenIs(t, "two alike", laid(500, map[int]string{100: "xyq", 200: "xyr"}), 200, letter('x'))
	tokenIs(t, "three alike", laid(500, map[int]string{100: "xyzq", 200: "xyzr"}), 200, match(3, 100))
	tokenIs(t, "four alike", laid(500, map[int]string{100: "xyzvq", 200: "xyzvr"}), 200, match(4, 100))
	tokenIs(t, "the nearest, though a farther one is longer", laid(500, map[int]string{100: "xyzabcq", 200: "xyzq", 300: "xyzabcr"}), 300, match(3, 100))
	tokenIs(t, "the distance 1", laid(500, map[int]string{100: "xxxxxxx"}), 101, match(6, 1))
	tokenIs(t, "the distance 2", laid(500, map[int]string{100: "xyxyxyx"}), 102, match(5, 2))
	tokenIs(t, "the distance 3", laid(500, map[int]string{100: "xyzxyzx"}), 103, match(4, 3))
	tokenIs(t, "as soon as there is one", laid(500, map[int]string{100: "abcd", 200: "bcdefg", 300: "abcdefg"}), 300, match(4, 200))
	for _, n := range []int{255, 256, 257} {
		data := append([]byte{9}, bytes.Repeat([]byte{7}, 1+n)...)
		tokenIs(t, "a run", append(data, 9), 2, match(n, 1))
	}
	for n, want := range map[int]word{258: letter(7), 259: letter(7), 260: match(3, 1), 261: match(4, 1)} {
		data := append(append([]byte{9}, bytes.Repeat([]byte{7}, 1+n)...), 9)
		tokenIs(t, "a long run", data, 2, match(257, 1))
		tokenIs(t, "a long run", data, 2+257, want)
	}
}

// Matches with what came of an earlier block: up to 8191 back, and not one more.
func TestK1Distances(t *testing.T) {
	for _, first := range []int{3, 100, 4000} {
		for _, d := range []int{4095, 4096, 4097, 8189, 8190, 8191} {
			data := laid(first+d+500, map[int]string{first - 1: "pxyzq", first + d - 1: "oxyzr"})
			tokenIs(t, fmt.Sprintf("the distance %d from %d", d, first), data, first+d, match(3, d))
		}
		for _, d := range []int{8192, 8193, 9000, 12288} {
			data := laid(first+d+500, map[int]string{first - 1: "pxyzq", first + d - 1: "oxyzr"})
			tokenIs(t, fmt.Sprintf("the distance %d from %d", d, first), data, first+d, letter('x'))
		}
		data := laid(first+9000, map[int]string{first - 1: "pxyzq", first + 8191: "oxyzr", first + 8299: "nxyzs"})
		tokenIs(t, "a near one behind one that is too far", data, first+8300, match(3, 108))
	}
	tokenIs(t, "the first byte of all", laid(9000, map[int]string{0: "xyzq", 8188: "xyzr"}), 8188, match(3, 8188))
	tokenIs(t, "the second byte of all", laid(9000, map[int]string{0: "pxyzq", 8192: "xyzr"}), 8192, match(3, 8191))
	tokenIs(t, "the first byte of all, one too far", laid(9000, map[int]string{0: "xyzq", 8192: "xyzr"}), 8192, letter('x'))
	tokenIs(t, "what goes over the beginning of the block", laid(9000, map[int]string{4094: "xyzvq", 5000: "xyzvr"}), 5000, match(4, 906))
}

// A match ends where its block does, and its first three bytes are in the block.
func TestK1BlockEnds(t *testing.T) {
	data := laid(9000, map[int]string{100: "abcdefgq", 4090: "abcdefgr"})
	tokenIs(t, "up to the end", data, 4090, match(6, 3990))
	tokenIs(t, "behind the end", data, 4096, letter('g'))
	data = laid(9000, map[int]string{100: "abcq", 4093: "abcr"})
	tokenIs(t, "the last three bytes", data, 4093, match(3, 3993))
	data = laid(9000, map[int]string{100: "abcq", 4094: "abcr"})
	tokenIs(t, "two bytes ahead of the end", data, 4094, letter('a'))
	tokenIs(t, "one byte ahead of the end", data, 4095, letter('b'))
	data = make([]byte, 2*4096)
	tokenIs(t, "a run over the end", data, 1+15*257, match(240, 1))
	tokenIs(t, "a run over the end", data, 4096, match(257, 1))
	tokenIs(t, "a run over the end", data, 4096+15*257, match(241, 1))
	tokenIs(t, "the last bytes of all", laid(503, map[int]string{100: "xyzq", 500: "xyz"}), 500, match(3, 400))
	tokenIs(t, "the last bytes of all", laid(502, map[int]string{100: "xyzq", 500: "xy"}), 500, letter('x'))
}

// In a second block of bytes 0 one symbol alone is used: its code is a bit 0.
func TestK1OneSymbol(t *testing.T) {
	b := packed(t, "8192 bytes 0", make([]byte, 8192))
	s := read(t, b)
	lengths := map[int]int{263: 1}
	var words []word
	for range 15 {
		words = append(words, match(257, 1))
	}
	words = append(words, match(241, 1))
	same(t, "15.2: one symbol alone", b[s.ends[0]:s.ends[1]], codedBytes(4096, bodyBytes(lengths, words...)))
	table := make([]byte, 34)
	table[32] = 1
	same(t, "15.2: its table", b[s.ends[0]+5:s.ends[0]+5+34], table)
	if m := int(b[s.ends[0]+4]); m != 34+24 {
		t.Errorf("15.2: m = %d, want 58", m)
	}
}

// An odd number of codes: the table's last half is 0.
func TestK1OddTable(t *testing.T) {
	many := 0
	for n := 1; n < 12; n++ {
		data := bytes.Repeat([]byte{200}, 300)
		for i := range n {
			data = append(data, byte(10*i))
		}
		b := packed(t, "a run and some bytes", data)
		if b[2] != 1 {
			t.Fatalf("15.3: %d bytes in a run, and %d others, are stored", 300, n)
		}
		symbols := map[int]bool{}
		for _, w := range read(t, b).words[0] {
			symbols[w.symbol()] = true
		}
		if len(symbols)%2 == 1 {
			many++
			if half := b[7+33+len(symbols)/2] & 15; half != 0 {
				t.Errorf("15.2: the table's last half is %d", half)
			}
		}
	}
	if many < 3 {
		t.Errorf("only %d tables of an odd number of codes", many)
	}
}

// A block is coded only if it is shorter so: as long coded as stored it is stored.
func TestK1AsLong(t *testing.T) {
	found := map[int]int{}
	for run := 3; run < 120; run++ {
		for others := range 40 {
			data := bytes.Repeat([]byte{200}, run)
			for i := range others {
				data = append(data, byte(i*i))
			}
			more := len(modelCoded(data, 0)) - (3 + len(data))
			if more < -1 || more > 1 {
				continue
			}
			found[more]++
			want := "s"
			if more < 0 {
				want = "c"
			}
			if got := kinds(t, packed(t, "a run and others", data)); got != want {
				t.Errorf("15.3: %d more coded than stored: %s, want %s", more, got, want)
			}
		}
	}
	if found[-1] == 0 || found[0] == 0 || found[1] == 0 {
		t.Errorf("not all of one less, as many, one more: %v", found)
	}
}

// Blocks of both kinds behind one another: matches reach into those that are stored, too.
func TestK1Mixed(t *testing.T) {
	draw := rand.New(rand.NewSource(5))
	wild := lot(draw, 4096, 256)
	data := slices.Concat(wild, wild, text(draw, 4096), lot(draw, 4096, 256), make([]byte, 100))
	if got := kinds(t, packed(t, "a mixture", data)); got != "sccsc" {
		t.Errorf("15.3: kinds %s", got)
	}
}

// Tokens as the model has them, those of blocks that are stored as well.
func TestK1Tokens(t *testing.T) {
	for i, n := range []int{1, 2, 3, 4096, 5000, 9000, 12288} {
		for _, s := range samples(int64(50+i), n) {
			for from := 0; from < len(s.data); from += 4096 {
				data := s.data[:min(len(s.data), from+4096)]
				var want [][3]int
				for _, w := range modelTokens(data, from) {
					want = append(want, [3]int{w.literal, w.length, w.distance})
				}
				if got := pack.TokensOf(data, from); !slices.Equal(got, want) {
					t.Errorf("15.3: tokens of %s, %d, from %d on are not those of the model", s.name, n, from)
				}
			}
		}
	}
}

// Lengths of codes by weights, of which no block has all: those alike, too, and codes of 16 bits.
func TestK1Lengths(t *testing.T) {
	weights := [][]int{
		{1}, {4096}, {1, 1}, {1, 1, 1}, {1, 1, 1, 1}, {2, 1, 1}, {1, 2, 1}, {1, 1, 2}, {2, 2, 1, 1}, {1, 1, 2, 2}, {1, 2, 2, 1}, {3, 1, 1, 1}, {1, 1, 1, 3}, {1, 2, 3, 4}, {2, 2, 2, 3, 3},
		{1, 1, 1, 3, 4, 7, 11, 18, 29, 47, 76, 123, 199, 322, 521, 843, 1364},
	}
	draw := rand.New(rand.NewSource(3))
	for range 400 {
		list := make([]int, 1+draw.Intn(264))
		most := []int{1, 2, 3, 5, 40, 4096}[draw.Intn(6)]
		for i := range list {
			list[i] = draw.Intn(most + 1)
		}
		list[0]++
		weights = append(weights, list)
	}
	longest := 0
	for _, list := range weights {
		var in [api.Symbols]int
		model := map[int]int{}
		for i, w := range list {
			in[i], model[i] = w, w
		}
		want := modelLengths(model)
		for symbol, got := range pack.LengthsOf(in) {
			longest = max(longest, got)
			if got != want[symbol] {
				t.Fatalf("15.3: weights %v: the symbol %d has the length %d, want %d", list, symbol, got, want[symbol])
			}
		}
	}
	if longest != 16 {
		t.Errorf("the longest code has %d bits", longest)
	}
}
