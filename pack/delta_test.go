package pack_test

import (
	"fmt"
	"math/rand"
	"slices"
	"testing"

	"arcade/api"
	"arcade/pack"
)

// xor is bytes, each xored with that of the other ones at its place.
func xor(a, b []byte) []byte {
	c := slices.Clone(a)
	for i := range c {
		if i < len(b) {
			c[i] ^= b[i]
		}
	}
	return c
}

// modelDelta is what Delta must answer.
func modelDelta(old, fresh []byte) []byte {
	return slices.Concat([]byte{68, 1}, endBytes(old)[1:], modelPack(xor(fresh, old)))
}

// changed is some bytes of which a few are others.
func changed(draw *rand.Rand, b []byte, many int) []byte {
	c := slices.Clone(b)
	for range many {
		c[draw.Intn(len(c))] = byte(draw.Intn(256))
	}
	return c
}

// pairs are rows of bytes, old and fresh ones.
func pairs() map[string][2][]byte {
	draw := rand.New(rand.NewSource(51))
	old := lot(draw, 9000, 256)
	words := text(draw, 5000)
	return map[string][2][]byte{
		"nothing, of nothing":        {nil, nil},
		"something, of nothing":      {nil, []byte("abc")},
		"nothing, of something":      {[]byte("abc"), nil},
		"one byte":                   {{7}, {9}},
		"the same":                   {old, old},
		"a few others":               {old, changed(draw, old, 20)},
		"longer":                     {old, append(changed(draw, old, 5), text(draw, 3000)...)},
		"longer by one":              {old, append(slices.Clone(old), 1)},
		"shorter":                    {old, changed(draw, old, 5)[:5000]},
		"shorter by one":             {old, old[:8999]},
		"shorter by all but one":     {old, old[:1]},
		"all others":                 {old, lot(draw, 9000, 256)},
		"a text, of another one":     {words, text(draw, 5100)},
		"a text, of any bytes":       {old, words},
		"bytes 0, of any bytes":      {old, make([]byte, 9000)},
		"any bytes, of bytes 0":      {make([]byte, 4096), old[:4096]},
		"any bytes, of more bytes 0": {make([]byte, 4097), old[:4096]},
	}
}

func TestK5Delta(t *testing.T) {
	for name, p := range pairs() {
		d, e := deltas(t, p[0], p[1])
		if e != api.OK {
			t.Errorf("K5: Delta of %s = %d", name, e)
		}
		same(t, "K5: Delta of "+name, d, modelDelta(p[0], p[1]))
		b, e := applies(t, p[0], d)
		if e != api.OK {
			t.Errorf("K5: Apply of %s = %d", name, e)
		}
		same(t, "K5: Apply of "+name, b, p[1])
	}
	d, _ := deltas(t, []byte("abc"), []byte("abd!"))
	same(t, "K5: Delta", d, slices.Concat([]byte{68, 1, 53, 36, 65, 194, 80, 1, 0, 0, 4, 0, 0, 7, 33}, endBytes([]byte{0, 0, 7, 33})))
}

// A delta of what is alike is small.
func TestK5Small(t *testing.T) {
	old := lot(rand.New(rand.NewSource(52)), 40960, 256)
	fresh := slices.Clone(old)
	fresh[20000] ^= 1
	if d, e := deltas(t, old, fresh); e != api.OK || len(d) > 1000 {
		t.Errorf("K5: Delta of what is nearly the same has %d bytes, %d", len(d), e)
	}
}

// As many bytes as may be, and one more, on either side.
func TestK5Long(t *testing.T) {
	most, one := make([]byte, api.MaxUnpacked), make([]byte, api.MaxUnpacked+1)
	for i, c := range []struct {
		old, fresh []byte
		e          api.Errno
	}{
		{most, most, api.OK}, {most, nil, api.OK}, {nil, most, api.OK}, {one, nil, api.ErrPackLong}, {nil, one, api.ErrPackLong}, {one, one, api.ErrPackLong}, {one, most, api.ErrPackLong}, {most, one, api.ErrPackLong},
	} {
		d, e := deltas(t, c.old, c.fresh)
		if e != c.e || (len(d) == 0) != (e != api.OK) {
			t.Errorf("K5: case %d: Delta = %s, %d, want %d", i, short(d), e, c.e)
		}
		if e != api.OK {
			continue
		}
		b, e := applies(t, c.old, d)
		if e != api.OK {
			t.Errorf("K5: case %d: Apply = %d", i, e)
		}
		same(t, "K5: Apply", b, c.fresh)
	}
	good, _ := pack.Delta(nil, nil)
	for _, d := range [][]byte{nil, {1}, good, {69, 1, 0, 0, 0, 0, 80}} {
		if b, e := applies(t, one, d); len(b) != 0 || e != api.ErrPackLong {
			t.Errorf("K5: Apply to too many, of %v = %s, %d", d, short(b), e)
		}
	}
	// what comes of the delta is bounded, too
	b, data := full(0)
	d := slices.Concat([]byte{68, 1, 0, 0, 0, 0}, b, storedBytes([]byte{1}), endBytes(data))
	if b, e := applies(t, nil, d); len(b) != 0 || e != api.ErrPackLong {
		t.Errorf("K5: Apply of a delta that is too long = %s, %d", short(b), e)
	}
}

// What is wrong with a delta: the first thing is told.
func TestK5Wrong(t *testing.T) {
	old, fresh := []byte("one two three"), []byte("one too three four")
	d, _ := deltas(t, old, fresh)
	for _, c := range []struct {
		name       string
		old, delta []byte
		e          api.Errno
	}{
		{"no delta", old, nil, api.ErrPackShort},
		{"other bytes", []byte("one two thref"), d, api.ErrPackBase},
		{"one byte less", old[:12], d, api.ErrPackBase},
		{"one byte more", append(slices.Clone(old), 0), d, api.ErrPackBase},
		{"no bytes", nil, d, api.ErrPackBase},
		{"the fresh bytes", fresh, d, api.ErrPackBase},
		{"five bytes of another head", old, []byte{69, 1, 0, 0, 0}, api.ErrPackShort},
		{"six bytes of another head", old, flipped(d, 0, 1)[:6], api.ErrPackHead},
		{"six bytes of another version", old, flipped(d, 1, 1)[:6], api.ErrPackHead},
		{"six bytes, and other bytes", fresh, d[:6], api.ErrPackBase},
		{"another head", old, flipped(d, 0, 1), api.ErrPackHead},
		{"another version", old, flipped(d, 1, 2), api.ErrPackHead},
		{"another head, and other bytes", fresh, flipped(d, 0, 1), api.ErrPackHead},
		{"packed bytes", old, d[6:], api.ErrPackHead},
		{"another sum", old, flipped(d, 2, 128), api.ErrPackBase},
		{"another sum", old, flipped(d, 3, 1), api.ErrPackBase},
		{"another sum", old, flipped(d, 4, 1), api.ErrPackBase},
		{"another sum", old, flipped(d, 5, 1), api.ErrPackBase},
		{"other bytes, and what is packed", fresh, flipped(d, 6, 1), api.ErrPackBase},
		{"the packed bytes' head", old, flipped(d, 6, 1), api.ErrPackHead},
		{"the packed bytes' version", old, flipped(d, 7, 1), api.ErrPackHead},
		{"a kind", old, flipped(d, 8, 7), api.ErrPackBlock},
		{"an n", old, flipped(d, 9, 16), api.ErrPackBlock},
		{"a byte of what has changed", old, flipped(d, 12, 1), api.ErrPackSum},
		{"the sum of what has changed", old, flipped(d, len(d)-1, 1), api.ErrPackSum},
		{"a byte too many", old, append(slices.Clone(d), 0), api.ErrPackMore},
	} {
		if b, e := applies(t, c.old, c.delta); len(b) != 0 || e != c.e {
			t.Errorf("K5: %s: Apply = %s, %d, want %d", c.name, short(b), e, c.e)
		}
	}
	for n := range d {
		if b, e := applies(t, old, d[:n]); len(b) != 0 || e != api.ErrPackShort {
			t.Errorf("K5: Apply of %d bytes of a delta = %s, %d", n, short(b), e)
		}
	}
}

// Every error of Unpack is that of Apply.
func TestK5Errors(t *testing.T) {
	old := []byte("old")
	head := append([]byte{68, 1}, endBytes(old)[1:]...)
	for _, w := range wrongs() {
		if b, e := applies(t, old, slices.Concat(head, w.all())); len(b) != 0 || e != w.why {
			t.Errorf("K5: %s behind %s: Apply = %s, %d, want %d", w.name, w.after.name, short(b), e, w.why)
		}
	}
}

// Deltas that are packed otherwise are taken as well.
func TestK5Otherwise(t *testing.T) {
	old := []byte("aaaa")
	change := []byte{7, 7, 7, 7, 7, 7}
	block := coded(6, map[int]int{7: 1, 256: 1}, "0"+lone(map[int]int{7: 1, 256: 1}, match(3, 1))+"00")
	d := slices.Concat([]byte{68, 1}, endBytes(old)[1:], whole(change, block))
	b, e := applies(t, old, d)
	if want := []byte("ffff\x07\x07"); e != api.OK || !slices.Equal(b, want) {
		t.Errorf("K5: Apply = %s, %d, want %s", short(b), e, short(want))
	}
}

// By lot.
func TestK5ByLot(t *testing.T) {
	draw := rand.New(rand.NewSource(53))
	for i := range 300 {
		old, fresh := rows(draw, draw.Intn(6000)), rows(draw, draw.Intn(6000))
		if i%2 == 0 {
			fresh = slices.Concat(old[:draw.Intn(len(old)+1)], fresh[:draw.Intn(len(fresh)+1)])
		}
		d, e := deltas(t, old, fresh)
		if e != api.OK {
			t.Fatalf("K5: Delta = %d", e)
		}
		b, e := applies(t, old, d)
		if e != api.OK {
			t.Fatalf("K5: Apply = %d", e)
		}
		same(t, fmt.Sprintf("K5: the %d-th Apply", i), b, fresh)
	}
}
