package block_test

import (
	"bytes"
	"fmt"
	"math"
	"math/rand"
	"slices"
	"testing"

	"arcade/api"
)

// With nothing pending a crash leaves the image, whatever the picks; with 512 for each write, too; with 0 for each, or no picks, what the last Sync has made safe.
func TestK6CrashAndImage(t *testing.T) {
	draw := rand.New(rand.NewSource(6))
	for round := range 60 {
		n := 1 + draw.Intn(5)
		safe := rows(n*size, round)
		s := of(t, safe)
		for range 4 {
			crash(t, s, nil, s.Image())
			crash(t, s, picksOf(draw, draw.Intn(4)), s.Image())
			many := draw.Intn(8)
			for range many {
				write(t, s, draw.Intn(n), drawn(draw))
			}
			for _, whole := range []int{512, 1025, 1026 + 512, -513, -1026} {
				crash(t, s, slices.Repeat([]int{whole}, many), s.Image())
			}
			for _, none := range []int{0, 513, 1026, -1, -514} {
				crash(t, s, slices.Repeat([]int{none}, draw.Intn(many+2)), safe)
			}
			s.Sync()
			safe = s.Image()
		}
	}
}

// Each byte that a crash leaves is that of the last Sync or of a pending write of its sector; sectors to which none is pending are whole.
func TestK6EachByte(t *testing.T) {
	draw := rand.New(rand.NewSource(66))
	for round := range 40 {
		n := 1 + draw.Intn(6)
		safe := rows(n*size, round)
		s := of(t, safe)
		writes := map[int][][]byte{}
		for range draw.Intn(9) {
			at, data := draw.Intn(n), drawn(draw)
			write(t, s, at, data)
			writes[at] = append(writes[at], data)
		}
		for range 20 {
			picks := picksOf(draw, draw.Intn(s.Pending()+3))
			left := s.Crash(picks)
			if len(left) != len(safe) {
				t.Fatalf("K5: Crash tells %d bytes of %d", len(left), len(safe))
			}
			for i, x := range left {
				if x != safe[i] && !slices.ContainsFunc(writes[i/size], func(data []byte) bool { return data[i%size] == x }) {
					t.Fatalf("K6: Crash(%v): byte %d is %d, which nobody has written", picks, i, x)
				}
			}
		}
	}
}

// Calls drawn by lot, right and wrong ones, answer as the model's do; and so do the stores that are made of what a crash has left.
func TestK6Model(t *testing.T) {
	for seed := range 120 {
		draw := rand.New(rand.NewSource(int64(seed)))
		n := []int{1, 1, 2, 3, 8, 33}[draw.Intn(6)]
		first := make([]byte, n*size)
		s := made(t, n)
		if seed%2 == 1 {
			first = rows(n*size, seed)
			s = of(t, first)
		}
		m := modelOf(first)
		for step := range 80 {
			which := fmt.Sprintf("seed %d, step %d", seed, step)
			if draw.Intn(20) == 0 {
				left := s.Crash(picksOf(draw, draw.Intn(s.Pending()+2)))
				s, m = of(t, left), modelOf(left)
			}
			stepBoth(t, draw, which, s, m)
			if t.Failed() {
				return
			}
		}
		same(t, fmt.Sprintf("seed %d", seed), tells(m), tells(s))
	}
}

// stepBoth makes one call of each, and holds their answers against each other.
func stepBoth(t *testing.T, draw *rand.Rand, which string, s, m store) {
	t.Helper()
	switch n := numberOf(draw, m.Sectors()); draw.Intn(9) {
	case 0:
		s.Sync()
		m.Sync()
	case 1:
		if draw.Intn(3) == 0 {
			limit := []int{math.MinInt, -1, 0, 1, 2, 5, 20, math.MaxInt}[draw.Intn(8)]
			s.Limit(limit)
			m.Limit(limit)
		}
	case 2:
		picks := picksOf(draw, draw.Intn(m.Pending()+3))
		if a, b := s.Crash(picks), m.Crash(picks); !bytes.Equal(a, b) {
			t.Errorf("%s: Crash(%v) = %s, want %s", which, picks, short(a), short(b))
		}
	case 3:
		if a, b := s.Image(), m.Image(); !bytes.Equal(a, b) {
			t.Errorf("%s: Image = %s, want %s", which, short(a), short(b))
		}
	case 4:
		a, e := s.Read(n)
		b, f := m.Read(n)
		if !bytes.Equal(a, b) || e != f {
			t.Errorf("%s: Read(%d) = %s, %d, want %s, %d", which, n, short(a), e, short(b), f)
		}
	default:
		writeBoth(t, draw, which, n, s, m)
	}
	if a, b := s.Pending(), m.Pending(); a != b || s.Sectors() != m.Sectors() {
		t.Errorf("%s: Pending = %d of %d sectors, want %d of %d", which, a, s.Sectors(), b, m.Sectors())
	}
}

func writeBoth(t *testing.T, draw *rand.Rand, which string, n int, s, m store) {
	t.Helper()
	data := drawn(draw)
	if draw.Intn(10) == 0 {
		data = make([]byte, []int{0, 1, 511, 513, 1024}[draw.Intn(5)])
	}
	want := m.Write(n, data)
	given := roomy(data, 200)
	if e := s.Write(n, given); e != want {
		t.Errorf("%s: Write(%d, %d bytes) = %d, want %d", which, n, len(data), e, want)
	}
	if !spared(given, data, 200) {
		t.Errorf("%s: Write has changed its data", which)
	}
	scratch(given, 201)
}

// numberOf is most often a sector's number, now and then none.
func numberOf(draw *rand.Rand, sectors int) int {
	if draw.Intn(10) == 0 {
		return slices.Concat(far, []int{sectors, sectors + 1})[draw.Intn(len(far)+2)]
	}
	return draw.Intn(sectors)
}

// picksOf are so many picks: small ones, edges, and far ones.
func picksOf(draw *rand.Rand, many int) []int {
	edges := []int{0, 1, 511, 512, 513, 514, 1024, 1025, 1026, 1027, -1, -2, -513, -514, -515, math.MinInt, math.MinInt + 1, math.MaxInt, math.MaxInt - 1}
	var picks []int
	for range many {
		pick := draw.Intn(2100) - 1050
		switch draw.Intn(3) {
		case 0:
			pick = edges[draw.Intn(len(edges))]
		case 1:
			pick = int(draw.Uint64())
		}
		picks = append(picks, pick)
	}
	return picks
}

// drawn is a sector drawn by lot: of few bytes, or of any.
func drawn(draw *rand.Rand) []byte {
	data := make([]byte, size)
	if draw.Intn(2) == 0 {
		draw.Read(data)
		return data
	}
	x := byte(draw.Intn(256))
	for i := range data {
		data[i] = x
	}
	return data
}

// A call of which no change is told changes nothing, be it refused or not.
func TestK6LooksChangeNothing(t *testing.T) {
	s := of(t, rows(3*size, 2))
	s.Limit(5)
	write(t, s, 0, all(1))
	write(t, s, 2, all(2))
	s.Sync()
	write(t, s, 1, all(3))
	was := tells(s)
	for _, n := range append([]int{0, 1, 2, 3}, far...) {
		s.Read(n)
		s.Crash([]int{n, n})
		same(t, "R4: a look", was, tells(s))
	}
	s.Image()
	s.Sectors()
	s.Pending()
	same(t, "R4: a look", was, tells(s))
	write(t, s, 0, all(4))
	write(t, s, 0, all(5))
	notWritten(t, s, 0, all(6), api.ErrBlockFull)
}
