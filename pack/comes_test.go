package pack_test

import (
	"bytes"
	"fmt"
	"math/rand"
	"slices"
	"testing"

	"arcade/api"
	"arcade/pack"
)

// piecewise writes bytes in pieces that end at places: all that comes.
func piecewise(t *testing.T, w writer, b []byte, cuts []int) []byte {
	t.Helper()
	var all []byte
	at := 0
	for _, end := range append(slices.Clone(cuts), len(b)) {
		x, e := writes(t, w, b[at:end])
		if e != api.OK {
			t.Fatalf("K6: Write = %d", e)
		}
		all = append(all, x...)
		at = end
	}
	return all
}

// back holds that data, packed in pieces and unpacked in other ones, are as they were.
func back(t *testing.T, which string, data []byte, cuts func(many int) []int) {
	t.Helper()
	p, u := pack.NewPacker(), pack.NewUnpacker()
	b := piecewise(t, p, data, cuts(len(data)))
	rest, e := p.Close()
	if e != api.OK {
		t.Errorf("K6: Close = %d", e)
	}
	b = append(b, rest...)
	same(t, "K6: "+which, piecewise(t, u, b, cuts(len(b))), data)
	if !u.Done() {
		t.Errorf("K6: %s: not done", which)
	}
	unpacked(t, which, b, data)
	inOne, _ := packs(t, data)
	same(t, "K6: Pack and the packer, of "+which, inOne, b)
}

// What is packed is unpacked as it was, however it is cut on either side.
func TestK6Back(t *testing.T) {
	draw := rand.New(rand.NewSource(61))
	for i, n := range []int{0, 1, 2, 3, 100, 4095, 4096, 4097, 9000, 20000} {
		for _, s := range samples(int64(60+i), n) {
			name := fmt.Sprintf("%s, %d", s.name, n)
			back(t, name, s.data, func(int) []int { return nil })
			for range 3 {
				back(t, name, s.data, func(many int) []int { return someCuts(draw, many) })
			}
			back(t, name, s.data, func(many int) []int { return everyFew(many, 1+draw.Intn(300)) })
		}
	}
	for _, s := range samples(62, 1500) {
		back(t, s.name, s.data, each)
	}
	for _, s := range samples(63, api.MaxUnpacked) {
		data := s.data[:min(len(s.data), api.MaxUnpacked)]
		back(t, s.name, data, func(many int) []int { return someCuts(draw, many) })
	}
}

// By lot, of many lengths.
func TestK6BackByLot(t *testing.T) {
	draw := rand.New(rand.NewSource(64))
	for range 300 {
		n := draw.Intn(9000)
		for _, data := range [][]byte{rows(draw, n), lot(draw, n, 1+draw.Intn(256))} {
			back(t, "bytes by lot", data, func(many int) []int { return someCuts(draw, many) })
		}
	}
}

// Packed bytes are at most 7 more than the bytes, and 3 more a block; and just so many, if nothing comes again.
func TestK6Size(t *testing.T) {
	draw := rand.New(rand.NewSource(65))
	for i, n := range []int{0, 1, 2, 10, 50, 4095, 4096, 4097, 8192, 8193, 30000, 262143, 262144} {
		for _, s := range samples(int64(i), n) {
			data := s.data[:min(len(s.data), api.MaxUnpacked)]
			b, e := packs(t, data)
			blocks := (len(data) + 4095) / 4096
			if e != api.OK || len(b) > len(data)+7+3*blocks {
				t.Errorf("K6: Pack of %d bytes, %s = %d bytes, %d", len(data), s.name, len(b), e)
			}
		}
		wild := lot(draw, n, 256)
		if b, _ := packs(t, wild); len(b) != n+7+3*((n+4095)/4096) {
			t.Errorf("K6: Pack of any %d bytes = %d bytes", n, len(b))
		}
	}
}

// Whatever stands there, no more than MaxUnpacked bytes come: blocks of a few bytes each that make many.
func TestK6Bound(t *testing.T) {
	words := make([]word, 0, 20)
	for range 15 {
		words = append(words, match(257, 1))
	}
	words = append(words, match(241, 1))
	bomb := codedBytes(4096, bodyBytes(map[int]int{263: 1}, words...))
	b := slices.Concat([]byte{80, 1}, storedBytes(make([]byte, 4096)), bytes.Repeat(bomb, 63))
	data := make([]byte, api.MaxUnpacked)
	unpacked(t, "as much as may be", slices.Concat(b, endBytes(data)), data)
	for _, more := range []int{1, 2, 1000} {
		refused(t, "more than may be", slices.Concat(b, bytes.Repeat(bomb, more)), api.ErrPackLong)
		u := pack.NewUnpacker()
		many, wrong := 0, api.OK
		for p := range slices.Chunk(slices.Concat(b, bytes.Repeat(bomb, more)), 777) {
			x, e := writes(t, u, p)
			many, wrong = many+len(x), e
		}
		if many != api.MaxUnpacked || wrong != api.ErrPackLong || u.Done() {
			t.Errorf("K6: %d bytes have come, %d, done %v", many, wrong, u.Done())
		}
	}
}

// Apply of Delta gives the fresh bytes.
func TestK6Delta(t *testing.T) {
	for _, n := range []int{0, 1, 500, 4096, 10000} {
		list := samples(66, n)
		for i, old := range list {
			fresh := list[(i+3)%len(list)]
			d, e := deltas(t, old.data, fresh.data)
			if e != api.OK {
				t.Errorf("K6: Delta = %d", e)
			}
			b, e := applies(t, old.data, d)
			if e != api.OK {
				t.Errorf("K6: Apply = %d", e)
			}
			same(t, "K6: "+fresh.name+", of "+old.name, b, fresh.data)
		}
	}
}

// A byte that is turned in a stored block is told, whichever it is.
func TestK6Turned(t *testing.T) {
	draw := rand.New(rand.NewSource(67))
	data := lot(draw, 5000, 256)
	b, _ := packs(t, data)
	if got := kinds(t, b); got != "ss" {
		t.Fatalf("K6: kinds %s", got)
	}
	for at := 5; at < len(b)-5; at++ {
		if at >= 5+4096 && at < 5+4096+3 {
			continue // the second block's kind and n
		}
		if at%7 == 0 || at < 300 {
			refused(t, "a turned byte", flipped(b, at, byte(1+draw.Intn(255))), api.ErrPackSum)
		}
	}
	small := whole([]byte("abc"), storedBytes([]byte("abc")))
	for at := 5; at < 8; at++ {
		for by := 1; by < 256; by++ {
			refused(t, "a turned byte", flipped(small, at, byte(by)), api.ErrPackSum)
		}
	}
}
