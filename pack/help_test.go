package pack_test

import (
	"bytes"
	"fmt"
	"math/rand"
	"slices"
	"strings"
	"testing"

	"arcade/api"
	"arcade/pack"
)

// spare is what fills the spare room of lists that are handed in.
const spare = 0xa5

// roomy is a copy of bytes, with spare room that is filled.
func roomy(b []byte) []byte {
	return append(slices.Clone(b), bytes.Repeat([]byte{spare}, 64)...)[:len(b)]
}

// kept holds that a roomy list is as it was, its room too; then it is written over, so that whoever has kept it is found out.
func kept(t *testing.T, call string, list, was []byte) {
	t.Helper()
	room := list[len(list) : len(list)+64]
	if !bytes.Equal(list, was) || !bytes.Equal(room, bytes.Repeat([]byte{spare}, 64)) {
		t.Errorf("R3: %s has changed what was handed in", call)
	}
	scratch(list)
}

// scratch writes over a list, and over its spare room.
func scratch(list []byte) {
	whole := list[:cap(list)]
	for i := range whole {
		whole[i] = 0x5a
	}
}

// out is a copy of what came out, which is written over.
func out(list []byte) []byte {
	b := slices.Clone(list)
	scratch(list)
	return b
}

// packs, unpacks: the calls, with lists that are looked after.
func packs(t *testing.T, data []byte) ([]byte, api.Errno) {
	t.Helper()
	in := roomy(data)
	b, e := pack.Pack(in)
	kept(t, "Pack", in, data)
	none(t, "Pack", b, e)
	return out(b), e
}

func unpacks(t *testing.T, packed []byte) ([]byte, api.Errno) {
	t.Helper()
	in := roomy(packed)
	b, e := pack.Unpack(in)
	kept(t, "Unpack", in, packed)
	none(t, "Unpack", b, e)
	return out(b), e
}

func deltas(t *testing.T, old, fresh []byte) ([]byte, api.Errno) {
	t.Helper()
	a, c := roomy(old), roomy(fresh)
	b, e := pack.Delta(a, c)
	kept(t, "Delta", a, old)
	kept(t, "Delta", c, fresh)
	none(t, "Delta", b, e)
	return out(b), e
}

func applies(t *testing.T, old, delta []byte) ([]byte, api.Errno) {
	t.Helper()
	a, c := roomy(old), roomy(delta)
	b, e := pack.Apply(a, c)
	kept(t, "Apply", a, old)
	kept(t, "Apply", c, delta)
	none(t, "Apply", b, e)
	return out(b), e
}

// none holds that nothing comes with an error.
func none(t *testing.T, call string, b []byte, e api.Errno) {
	t.Helper()
	if e != api.OK && len(b) > 0 {
		t.Errorf("R2: %s = %s, %d", call, short(b), e)
	}
}

// writer is a packer or an unpacker.
type writer interface {
	Write(data []byte) ([]byte, api.Errno)
}

func writes(t *testing.T, w writer, data []byte) ([]byte, api.Errno) {
	t.Helper()
	in := roomy(data)
	b, e := w.Write(in)
	kept(t, "Write", in, data)
	return out(b), e
}

// short tells a list, if it is long by its ends.
func short(b []byte) string {
	if len(b) > 60 {
		return fmt.Sprintf("%v .. %v (%d)", b[:30], b[len(b)-12:], len(b))
	}
	return fmt.Sprint(b)
}

// same holds bytes against those that are asked for.
func same(t *testing.T, which string, got, want []byte) {
	t.Helper()
	if !bytes.Equal(got, want) {
		at := 0
		for at < min(len(got), len(want)) && got[at] == want[at] {
			at++
		}
		t.Errorf("%s: %s, want %s (alike up to %d)", which, short(got), short(want), at)
	}
}

// packed is what Pack makes, held against the model.
func packed(t *testing.T, which string, data []byte) []byte {
	t.Helper()
	b, e := packs(t, data)
	if e != api.OK {
		t.Errorf("K1: Pack of %s = %d", which, e)
	}
	same(t, "K1: Pack of "+which, b, modelPack(data))
	return b
}

// unpacked holds that bytes, packed in whatever way, are unpacked to these.
func unpacked(t *testing.T, which string, b, want []byte) {
	t.Helper()
	got, e := unpacks(t, b)
	if e != api.OK {
		t.Errorf("K2: Unpack of %s = %d", which, e)
	}
	same(t, "K2: Unpack of "+which, got, want)
}

// refused holds that Unpack answers this error.
func refused(t *testing.T, which string, b []byte, want api.Errno) {
	t.Helper()
	if _, e := unpacks(t, b); e != want {
		t.Errorf("K2: Unpack of %s, %s = %d, want %d", which, short(b), e, want)
	}
}

// whole is packed bytes of blocks that come to these bytes.
func whole(want []byte, blocks ...[]byte) []byte {
	return slices.Concat([]byte{80, 1}, slices.Concat(blocks...), endBytes(want))
}

// kinds tells the kinds of the blocks of packed bytes that are right.
func kinds(t *testing.T, b []byte) string {
	t.Helper()
	s := read(t, b)
	list, at := "", 2
	for _, end := range s.ends {
		list += string("sc"[b[at]])
		at = end
	}
	return list
}

// read is what the model reads of packed bytes that are right.
func read(t *testing.T, b []byte) seen {
	t.Helper()
	s, e := modelUnpack(b)
	if e != api.OK {
		t.Fatalf("the model refuses %s: %d", short(b), e)
	}
	return s
}

// wordAt is the token that begins at a place of what comes of packed bytes; all of their blocks are coded.
func wordAt(t *testing.T, b []byte, place int) word {
	t.Helper()
	at := 0
	for i, words := range read(t, b).words {
		if words == nil {
			t.Fatalf("the block %d is stored", i)
		}
		for _, w := range words {
			if at == place {
				return w
			}
			at += w.length
		}
	}
	t.Fatalf("no token begins at %d", place)
	return word{}
}

// sample is bytes of some kind, and what kind that is.
type sample struct {
	name string
	data []byte
}

// text is words of a language that has few of them.
func text(draw *rand.Rand, many int) []byte {
	list := strings.Fields("a host on which many small game consoles run side by side from the sums of the processor up to connections; what is packed is unpacked as it was, however it is cut.")
	var b []byte
	for len(b) < many {
		b = append(b, list[draw.Intn(len(list))]...)
		b = append(b, ' ')
	}
	return b[:many]
}

// lot is bytes below a bound.
func lot(draw *rand.Rand, many, below int) []byte {
	b := make([]byte, many)
	for i := range b {
		b[i] = byte(draw.Intn(below))
	}
	return b
}

// rows is bytes in which rows come again, near and far, now and then with a byte changed.
func rows(draw *rand.Rand, many int) []byte {
	b := lot(draw, 10, 256)
	for len(b) < many {
		n := 1 + draw.Intn(300)
		if draw.Intn(4) == 0 {
			b = append(b, lot(draw, 1+draw.Intn(40), 256)...)
			continue
		}
		back := 1 + draw.Intn(min(len(b), []int{4, 40, 400, 9000}[draw.Intn(4)]))
		for range n {
			b = append(b, b[len(b)-back])
		}
	}
	return b[:many]
}

// samples are bytes of all kinds, of so many bytes or about that.
func samples(seed int64, many int) []sample {
	draw := rand.New(rand.NewSource(seed))
	runs := []byte{}
	for len(runs) < many {
		runs = append(runs, bytes.Repeat([]byte{byte(draw.Intn(7))}, 1+draw.Intn(700))...)
	}
	again := lot(draw, 1+many/3, 256)
	return []sample{
		{"a text", text(draw, many)},
		{"bytes 0", make([]byte, many)},
		{"runs", runs[:many]},
		{"any bytes", lot(draw, many, 256)},
		{"bits", lot(draw, many, 2)},
		{"few bytes", lot(draw, many, 17)},
		{"rows that come again", rows(draw, many)},
		{"the same thrice", slices.Concat(again, again, again)},
		{"any bytes, then a text", append(lot(draw, many/2, 256), text(draw, many-many/2)...)},
		{"rising bytes", rising(many)},
	}
}

// rising is 0, 1, 2 .., with a step between rounds, so that rows of three do not come again at once.
func rising(many int) []byte {
	b := make([]byte, many)
	for i := range b {
		b[i] = byte(i * (1 + i>>8))
	}
	return b
}
