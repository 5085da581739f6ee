package block_test

import (
	"bytes"
	"math"
	"slices"
	"testing"
)

// torn is a sector that was was, of which a write of all x has left its first, or its last, bytes.
func torn(was, x byte, first, last int) []byte {
	return slices.Concat(bytes.Repeat([]byte{x}, first), bytes.Repeat([]byte{was}, size-first-last), bytes.Repeat([]byte{x}, last))
}

// The examples of the document.
func TestK5Examples(t *testing.T) {
	s := made(t, 2)
	write(t, s, 1, all(7))
	pending(t, s, 1)
	crash(t, s, []int{512}, sectors(0, 7))
	crash(t, s, []int{3}, append(all(0), torn(0, 7, 3, 0)...))
	crash(t, s, []int{513 + 3}, append(all(0), torn(0, 7, 0, 3)...))
	crash(t, s, []int{}, sectors(0, 0))
	s.Sync()
	crash(t, s, []int{}, sectors(0, 7))
}

// Each pick of four turns, and its like below 0.
func TestK5EachPick(t *testing.T) {
	s := of(t, sectors(1, 2, 3))
	write(t, s, 1, all(9))
	for turn := range 4 {
		for k := range 513 {
			p := 513*turn + k
			want := torn(2, 9, k, 0)
			if turn%2 == 1 {
				want = torn(2, 9, 0, k)
			}
			want = slices.Concat(all(1), want, all(3))
			crash(t, s, []int{p}, want)
			crash(t, s, []int{-(p + 1)}, want)
		}
	}
}

// Picks that are far off: the greatest int is an even number of times 513, and 511.
func TestK5FarPicks(t *testing.T) {
	for _, c := range []struct{ pick, first, last int }{
		{math.MaxInt, 511, 0},
		{math.MaxInt - 1, 510, 0},
		{math.MaxInt - 511, 0, 0},
		{math.MaxInt - 512, 0, 512},
		{math.MaxInt - 513, 0, 511},
		{math.MaxInt - 1024, 0, 0},
		{math.MaxInt - 1025, 512, 0},
		{math.MinInt, 511, 0},
		{math.MinInt + 1, 510, 0},
		{math.MinInt + 511, 0, 0},
		{math.MinInt + 512, 0, 512},
		{math.MinInt + 513, 0, 511},
		{1 << 32, 0, 481},
		{-1 - 1<<32, 0, 481},
		{1026 * 1000000, 0, 0},
		{1026*1000000 + 11, 11, 0},
		{1026*1000000 + 513 + 11, 0, 11},
		{-1026*1000000 - 12, 11, 0},
		{-1026*1000000 - 525, 0, 11},
		{-1, 0, 0},
		{-2, 1, 0},
		{-513, 512, 0},
		{-514, 0, 0},
		{-515, 0, 1},
		{-1026, 0, 512},
		{-1027, 0, 0},
	} {
		s := of(t, sectors(1, 2))
		write(t, s, 0, all(9))
		crash(t, s, []int{c.pick}, append(torn(1, 9, c.first, c.last), all(2)...))
		image(t, s, sectors(9, 2))
	}
}

// The bytes that are not there stay as they were ahead of that write: as the writes ahead of it have left them, not as they were read.
func TestK5SeveralWritesToOneSector(t *testing.T) {
	s := of(t, all(1))
	for _, x := range []byte{2, 3, 4} {
		write(t, s, 0, all(x))
	}
	image(t, s, all(4))
	for _, c := range []struct {
		picks []int
		want  []run
	}{
		{[]int{512, 512, 512}, []run{{4, 512}}},
		{[]int{512, 512}, []run{{3, 512}}},
		{[]int{512}, []run{{2, 512}}},
		{[]int{0, 512}, []run{{3, 512}}},
		{[]int{0, 0, 512}, []run{{4, 512}}},
		{[]int{512, 0, 0}, []run{{2, 512}}},
		{[]int{512, 513, 1026}, []run{{2, 512}}},
		{[]int{300, 200, 100}, []run{{4, 100}, {3, 100}, {2, 100}, {1, 212}}},
		{[]int{100, 200, 300}, []run{{4, 300}, {1, 212}}},
		{[]int{100, 300, 200}, []run{{4, 200}, {3, 100}, {1, 212}}},
		{[]int{300, 513 + 300, 100}, []run{{4, 100}, {2, 112}, {3, 300}}},
		{[]int{300, 513 + 300, 513 + 100}, []run{{2, 212}, {3, 200}, {4, 100}}},
		{[]int{1, 514, 0}, []run{{2, 1}, {1, 510}, {3, 1}}},
		{[]int{-4, -517, -1}, []run{{2, 3}, {1, 506}, {3, 3}}},
		{[]int{1025, 1, 514}, []run{{3, 1}, {2, 510}, {4, 1}}},
	} {
		var want []byte
		for _, r := range c.want {
			want = append(want, bytes.Repeat([]byte{r.x}, r.many)...)
		}
		crash(t, s, c.picks, want)
	}
}

// Each byte of a write stands at its own place.
func TestK5WhichBytes(t *testing.T) {
	old, data := rows(3*size, 100), rows(size, 1)
	s := of(t, old)
	write(t, s, 2, data)
	for k := range 513 {
		crash(t, s, []int{k}, slices.Concat(old[:2*size], data[:k], old[2*size+k:]))
		crash(t, s, []int{513 + k}, slices.Concat(old[:3*size-k], data[size-k:]))
	}
}

// The i-th write has the i-th pick, whichever sectors were written; missing picks are 0, further ones are not looked at.
func TestK5WhichPick(t *testing.T) {
	s := made(t, 4)
	for i, n := range []int{3, 0, 2, 0, 3} {
		write(t, s, n, all(byte(i+1)))
	}
	crash(t, s, []int{512, 512, 512, 512, 512}, sectors(4, 0, 3, 5))
	crash(t, s, []int{512, 512, 512, 512, 512, 0, 0, 7}, sectors(4, 0, 3, 5))
	crash(t, s, []int{512, 512, 512, 512}, sectors(4, 0, 3, 1))
	crash(t, s, []int{512, 512, 512}, sectors(2, 0, 3, 1))
	crash(t, s, []int{512, 512}, sectors(2, 0, 0, 1))
	crash(t, s, []int{512}, sectors(0, 0, 0, 1))
	crash(t, s, nil, sectors(0, 0, 0, 0))
	crash(t, s, []int{0, 0, 512}, sectors(0, 0, 3, 0))
	crash(t, s, []int{0, 0, 0, 0, 512}, sectors(0, 0, 0, 5))
	crash(t, s, slices.Repeat([]int{512}, 100000), sectors(4, 0, 3, 5))
}

// A crash changes nothing: the store goes on, and may crash in another way.
func TestK5GoesOn(t *testing.T) {
	s := made(t, 2)
	s.Limit(3)
	write(t, s, 0, all(1))
	write(t, s, 1, all(2))
	was := tells(s)
	for _, picks := range [][]int{nil, {512}, {0, 512}, {512, 512}, {7, 600}, {math.MinInt, math.MaxInt}} {
		s.Crash(picks)
		same(t, "K5: a crash", was, tells(s))
	}
	write(t, s, 0, all(3))
	pending(t, s, 3)
	crash(t, s, []int{512, 512, 5}, append(torn(1, 3, 5, 0), all(2)...))
	s.Sync()
	crash(t, s, nil, sectors(3, 2))
}

// A store made of what a crash has left goes on from there.
func TestK5GoneOnWith(t *testing.T) {
	s := of(t, sectors(1, 2))
	write(t, s, 0, all(3))
	write(t, s, 1, all(4))
	next := of(t, s.Crash([]int{100, 513 + 50}))
	left := append(torn(1, 3, 100, 0), torn(2, 4, 0, 50)...)
	pending(t, next, 0)
	image(t, next, left)
	crash(t, next, []int{512, 512}, left)
	write(t, next, 1, all(5))
	crash(t, next, []int{462}, append(torn(1, 3, 100, 0), slices.Concat(bytes.Repeat([]byte{5}, 462), bytes.Repeat([]byte{4}, 50))...))
	crash(t, next, nil, left)
	next.Sync()
	crash(t, next, nil, append(torn(1, 3, 100, 0), all(5)...))
	image(t, s, sectors(3, 4))
}

// Image is all sectors, one behind the other, as Read tells them.
func TestK5Image(t *testing.T) {
	s := of(t, rows(5*size, 0))
	write(t, s, 4, all(1))
	s.Sync()
	write(t, s, 0, rows(size, 17))
	write(t, s, 2, all(2))
	write(t, s, 2, all(3))
	var whole []byte
	for n := range 5 {
		b, _ := s.Read(n)
		whole = append(whole, b...)
	}
	image(t, s, whole)
}

// Picks are not changed, their room neither.
func TestK5PicksAreSpared(t *testing.T) {
	s := made(t, 1)
	for range 4 {
		write(t, s, 0, all(1))
	}
	picks := []int{-1, math.MinInt}
	given := roomy(picks, -77)
	crash(t, s, given, torn(0, 1, 511, 0))
	if !spared(given, picks, -77) {
		t.Error("R3: Crash has changed its picks")
	}
}

// All that comes out is new memory.
func TestK5NewMemory(t *testing.T) {
	s := of(t, sectors(1, 2))
	write(t, s, 0, all(3))
	s.Sync()
	write(t, s, 1, all(4))
	was := tells(s)
	for _, tell := range []func() []byte{s.Image, func() []byte { return s.Crash(nil) }, func() []byte { return s.Crash([]int{512}) }, func() []byte { return s.Crash([]int{513}) }} {
		first, second := tell(), tell()
		keep := slices.Clone(second)
		scratch(first, 99)
		if !slices.Equal(second, keep) {
			t.Error("R3: two lists share memory")
		}
		scratch(second, 98)
		same(t, "K5: what was told was written into", was, tells(s))
	}
	s.Sync()
	was = tells(s)
	scratch(s.Image(), 97)
	scratch(s.Crash(nil), 96)
	same(t, "K5: what was told was written into, nothing pending", was, tells(s))
}
