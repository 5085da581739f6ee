package pack_test

import (
	"fmt"
	"math/rand"
	"slices"
	"testing"

	"arcade/api"
	"arcade/pack"
)

// stream is a packer, what was written to it, and what it has given.
type stream struct {
	*pack.Packer
	t          *testing.T
	fed, given []byte
}

func packer(t *testing.T) *stream {
	t.Helper()
	p := pack.NewPacker()
	if p == nil {
		t.Fatal("K3: NewPacker = nil")
	}
	return &stream{Packer: p, t: t}
}

// write writes bytes: all that was given up to now must be the head, and the blocks of which MaxBlock bytes have come; ends is where these end in what Pack gives of all bytes, from the head on.
func (s *stream) write(data []byte, want []byte, ends []int) {
	s.t.Helper()
	b, e := writes(s.t, s, data)
	s.fed, s.given = append(s.fed, data...), append(s.given, b...)
	sure := want[:ends[len(s.fed)/api.MaxBlock]]
	if e != api.OK || len(s.given) != len(sure) || !slices.Equal(b, sure[len(s.given)-len(b):]) {
		s.t.Fatalf("K3: with %d bytes of %d, %d in all, Write = %s, %d; %d given, want %d", len(data), len(want), len(s.fed), short(b), e, len(s.given), len(sure))
	}
}

// close closes it: all that was given must be what Pack gives.
func (s *stream) close(want []byte) {
	s.t.Helper()
	b, e := s.Close()
	s.given = append(s.given, out(b)...)
	if e != api.OK {
		s.t.Errorf("K3: Close = %d", e)
	}
	same(s.t, "K3: all that was given", s.given, want)
	s.isClosed()
}

// isClosed holds that it refuses all, again and again.
func (s *stream) isClosed() {
	s.t.Helper()
	for range 2 {
		for _, data := range [][]byte{nil, {1}, make([]byte, 5000), make([]byte, api.MaxUnpacked+1)} {
			if b, e := writes(s.t, s, data); len(b) != 0 || e != api.ErrPackMore {
				s.t.Errorf("K3: Write of %d bytes behind Close = %s, %d", len(data), short(b), e)
			}
		}
		if b, e := s.Close(); len(b) != 0 || e != api.ErrPackMore {
			s.t.Errorf("K3: Close behind Close = %s, %d", short(b), e)
		}
	}
}

// tooLong holds that it refuses bytes that are too many.
func (s *stream) tooLong(many int) {
	s.t.Helper()
	if b, e := writes(s.t, s, make([]byte, many)); len(b) != 0 || e != api.ErrPackLong {
		s.t.Errorf("K3: Write of %d bytes, too many = %s, %d", many, short(b), e)
	}
}

// endsOf is what Pack gives of bytes, and where in it the head and each block end.
func endsOf(t *testing.T, data []byte) ([]byte, []int) {
	t.Helper()
	b, e := pack.Pack(data)
	if e != api.OK {
		t.Fatalf("K1: Pack = %d", e)
	}
	return b, append([]int{2}, read(t, b).ends...)
}

// inPieces packs data in pieces, which end at places.
func inPieces(t *testing.T, data []byte, want []byte, ends, cuts []int) {
	t.Helper()
	s := packer(t)
	at := 0
	for _, end := range cuts {
		s.write(data[at:end], want, ends)
		at = end
	}
	s.write(data[at:], want, ends)
	s.close(want)
}

// everyFew are the places at each so many bytes.
func everyFew(many, size int) []int {
	var list []int
	for at := size; at < many; at += size {
		list = append(list, at)
	}
	return list
}

// someCuts are places drawn by lot, now and then twice the same: nothing comes between.
func someCuts(draw *rand.Rand, many int) []int {
	var list []int
	for range draw.Intn(9) {
		list = append(list, draw.Intn(many+1))
	}
	slices.Sort(list)
	return list
}

// Nothing at all, in some ways.
func TestK3Nothing(t *testing.T) {
	nothing := []byte{80, 1, 2, 0, 0, 0, 0}
	s := packer(t)
	s.close(nothing)
	s = packer(t)
	s.write(nil, nothing, []int{2})
	s.write(nil, nothing, []int{2})
	s.write([]byte{}, nothing, []int{2})
	s.close(nothing)
}

// Pieces of every size.
func TestK3Pieces(t *testing.T) {
	for i, s := range samples(31, 9000) {
		want, ends := endsOf(t, s.data)
		for _, size := range []int{1, 2, 3, 7, 64, 255, 256, 1000, 4095, 4096, 4097, 5000, 8191, 8192, 8193, 20000} {
			inPieces(t, s.data, want, ends, everyFew(len(s.data), size))
		}
		draw := rand.New(rand.NewSource(int64(i)))
		for range 20 {
			inPieces(t, s.data, want, ends, someCuts(draw, len(s.data)))
		}
	}
}

// Each length near that of a block: one is told as soon as all its bytes have come, and not ahead of that.
func TestK3Blocks(t *testing.T) {
	for _, n := range []int{1, 2, 3, 4094, 4095, 4096, 4097, 8191, 8192, 8193, 12288} {
		for _, s := range samples(int64(n), n) {
			want, ends := endsOf(t, s.data)
			inPieces(t, s.data, want, ends, nil)
			inPieces(t, s.data, want, ends, []int{0, 0, len(s.data) - 1})
			inPieces(t, s.data, want, ends, []int{1})
			inPieces(t, s.data, want, ends, []int{len(s.data) / 2, len(s.data)})
		}
	}
}

// Matches go far back, over pieces that were told long ago, and no farther than they may.
func TestK3FarBack(t *testing.T) {
	for _, d := range []int{4096, 8190, 8191, 8192, 8193, 12288} {
		data := laid(30000, map[int]string{99: "pxyzvq", 99 + d: "oxyzvr", 12000: "uvwt", 12000 + d: "uvws"})
		want, ends := endsOf(t, data)
		same(t, fmt.Sprintf("K1: the distance %d", d), want, modelPack(data))
		for _, size := range []int{1, 100, 4096, 5000, 8191, 8192} {
			inPieces(t, data, want, ends, everyFew(len(data), size))
		}
	}
}

// As many bytes as may be, in pieces; one more is refused, and nothing is changed by that.
func TestK3Long(t *testing.T) {
	data := text(rand.New(rand.NewSource(8)), api.MaxUnpacked)
	want, ends := endsOf(t, data)
	for _, sizes := range [][]int{{api.MaxUnpacked}, {1, api.MaxUnpacked - 1}, {api.MaxUnpacked - 1, 1}, {100000, 100000, 62144}, {262143, 0, 1, 0}} {
		s := packer(t)
		s.tooLong(api.MaxUnpacked + 1)
		at := 0
		for _, n := range sizes {
			s.tooLong(api.MaxUnpacked - at + 1)
			s.tooLong(api.MaxUnpacked + 1)
			s.write(data[at:at+n], want, ends)
			at += n
		}
		s.tooLong(1)
		s.tooLong(4096)
		s.write(nil, want, ends)
		s.close(want)
	}
	s := packer(t)
	s.tooLong(api.MaxUnpacked + 1) // the head is not told by it
	s.close([]byte{80, 1, 2, 0, 0, 0, 0})
}

// Two packers have nothing to do with one another.
func TestK3Apart(t *testing.T) {
	draw := rand.New(rand.NewSource(4))
	a, b := text(draw, 10000), rows(draw, 10000)
	wantA, endsA := endsOf(t, a)
	wantB, endsB := endsOf(t, b)
	one, other := packer(t), packer(t)
	for at := 0; at < 10000; at += 500 {
		one.write(a[at:at+500], wantA, endsA)
		other.write(b[at:at+500], wantB, endsB)
	}
	one.close(wantA)
	other.close(wantB)
}
