package block_test

import (
	"bytes"
	"math"
	"slices"
	"testing"

	"arcade/api"
	"arcade/block"
)

const size = api.SectorSize

// far are numbers that are no sector's, and of which the products with a sector's size may run over.
var far = []int{math.MinInt, math.MinInt + 1, math.MinInt / size, math.MinInt32, -4096, -2, -1, 4096, 4097, 1 << 32, math.MaxInt32, 1 << 55, 1<<55 + 1, math.MaxInt / size, math.MaxInt - 1, math.MaxInt}

// made is a store of so many sectors, all 0.
func made(t *testing.T, sectors int) *block.Store {
	t.Helper()
	s, e := block.New(sectors)
	if s == nil || e != api.OK {
		t.Fatalf("K1: New(%d) = %v, %d", sectors, s != nil, e)
	}
	return s
}

// of is a store of these bytes.
func of(t *testing.T, image []byte) *block.Store {
	t.Helper()
	s, e := block.Of(image)
	if s == nil || e != api.OK {
		t.Fatalf("K1: Of %d bytes = %v, %d", len(image), s != nil, e)
	}
	return s
}

// all is a sector of which all bytes are x.
func all(x byte) []byte {
	return bytes.Repeat([]byte{x}, size)
}

// sectors is sectors that are all of one byte each.
func sectors(fill ...byte) []byte {
	var image []byte
	for _, x := range fill {
		image = append(image, all(x)...)
	}
	return image
}

// rows is n bytes of which each sector, and each byte within it, differs from its neighbours.
func rows(n, from int) []byte {
	image := make([]byte, n)
	for i := range image {
		image[i] = byte(i%251 + 3*(i/size) + from)
	}
	return image
}

func read(t *testing.T, s *block.Store, n int, want []byte) {
	t.Helper()
	if b, e := s.Read(n); !bytes.Equal(b, want) || e != api.OK {
		t.Errorf("K2: Read(%d) = %s, %d, want %s", n, short(b), e, short(want))
	}
}

func notRead(t *testing.T, s *block.Store, n int) {
	t.Helper()
	if b, e := s.Read(n); len(b) != 0 || e != api.ErrArg {
		t.Errorf("K2: Read(%d) = %s, %d, want %d", n, short(b), e, api.ErrArg)
	}
}

func write(t *testing.T, s *block.Store, n int, data []byte) {
	t.Helper()
	if e := s.Write(n, data); e != api.OK {
		t.Fatalf("K3: Write(%d, %d bytes) = %d", n, len(data), e)
	}
}

// notWritten is a write that is refused, and changes nothing.
func notWritten(t *testing.T, s *block.Store, n int, data []byte, want api.Errno) {
	t.Helper()
	was := tells(s)
	if e := s.Write(n, data); e != want {
		t.Errorf("K3: Write(%d, %d bytes) = %d, want %d", n, len(data), e, want)
	}
	same(t, "K3: a write that was refused", was, tells(s))
}

func pending(t *testing.T, s *block.Store, want int) {
	t.Helper()
	if n := s.Pending(); n != want {
		t.Errorf("K4: Pending = %d, want %d", n, want)
	}
}

func image(t *testing.T, s *block.Store, want []byte) {
	t.Helper()
	if b := s.Image(); !bytes.Equal(b, want) {
		t.Errorf("K5: Image = %s, want %s", short(b), short(want))
	}
}

func crash(t *testing.T, s *block.Store, picks []int, want []byte) {
	t.Helper()
	if b := s.Crash(picks); !bytes.Equal(b, want) {
		t.Errorf("K5: Crash(%v) = %s, want %s", picks, short(b), short(want))
	}
}

// roomy is a list with spare room, all of it filled.
func roomy[T any](list []T, filling T) []T {
	return append(slices.Clone(list), slices.Repeat([]T{filling}, 2*size)...)[:len(list)]
}

// spared tells whether a roomy list is as it was, its room too.
func spared[T comparable](list, was []T, filling T) bool {
	return slices.Equal(list, was) && slices.Equal(list[len(list):len(list)+2*size], slices.Repeat([]T{filling}, 2*size))
}

// scratch writes over a list and its spare room, and makes it longer.
func scratch[T any](list []T, x T) {
	whole := list[:cap(list)]
	for i := range whole {
		whole[i] = x
	}
	_ = append(list, slices.Repeat([]T{x}, 2*size)...)
}

// told is all that a store tells by calls that change nothing.
type told struct {
	sectors, pending int
	reads, torn      [][]byte
	image, safe      []byte
}

func tells(s store) *told {
	a := &told{sectors: s.Sectors(), pending: s.Pending(), image: s.Image(), safe: s.Crash(nil)}
	for n := range a.sectors {
		b, e := s.Read(n)
		if e != api.OK {
			b = []byte("refused")
		}
		a.reads = append(a.reads, b)
	}
	for _, pick := range []int{1, 256, 511, 512, 514, 768, 1024, 1025} {
		a.torn = append(a.torn, s.Crash(slices.Repeat([]int{pick}, a.pending)))
	}
	return a
}

// same holds against each other what two stores tell, or one store at two times.
func same(t *testing.T, which string, a, b *told) {
	t.Helper()
	if a.sectors != b.sectors || a.pending != b.pending {
		t.Errorf("%s: %d sectors, %d pending, and %d, %d", which, a.sectors, a.pending, b.sectors, b.pending)
	}
	if !bytes.Equal(a.image, b.image) || !slices.EqualFunc(a.reads, b.reads, bytes.Equal) {
		t.Errorf("%s: Image or Read tells other bytes", which)
	}
	if !bytes.Equal(a.safe, b.safe) || !slices.EqualFunc(a.torn, b.torn, bytes.Equal) {
		t.Errorf("%s: Crash tells other bytes", which)
	}
}
