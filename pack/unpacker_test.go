package pack_test

import (
	"fmt"
	"math/rand"
	"slices"
	"testing"

	"arcade/api"
	"arcade/pack"
)

func unpacker(t *testing.T) *pack.Unpacker {
	t.Helper()
	u := pack.NewUnpacker()
	if u == nil {
		t.Fatal("K4: NewUnpacker = nil")
	}
	return u
}

// feeds writes bytes: just these must come, with this answer; and then the end has come, or not.
func feeds(t *testing.T, which string, u *pack.Unpacker, data []byte, want []byte, why api.Errno, done bool) {
	t.Helper()
	b, e := writes(t, u, data)
	if !slices.Equal(b, want) || e != why || u.Done() != done {
		t.Fatalf("K4: %s: Write(%s) = %s, %d, done %v, want %s, %d, %v", which, short(data), short(b), e, u.Done(), short(want), why, done)
	}
}

// inOrder writes packed bytes in pieces that end at places; behind each of them all that has come, and what is wrong, must be as the model reads it of the bytes up to there.
func inOrder(t *testing.T, which string, b []byte, cuts []int) {
	t.Helper()
	u := unpacker(t)
	at, many := 0, 0
	wrong := api.OK
	for _, end := range append(slices.Clone(cuts), len(b)) {
		s, e := modelUnpack(b[:end])
		done := e == api.OK
		if e == api.ErrPackShort {
			e = api.OK
		}
		if wrong != api.OK {
			e = wrong
		}
		feeds(t, which, u, b[at:end], s.data[many:], e, done)
		at, many, wrong = end, len(s.data), e
	}
	if wrong != api.OK {
		stays(t, which, u, wrong)
	}
}

// stays holds that an error, once told, is the answer to all that comes.
func stays(t *testing.T, which string, u *pack.Unpacker, why api.Errno) {
	t.Helper()
	for _, data := range [][]byte{nil, {80}, {80, 1, 0, 0, 1, 7}, {2, 0, 0, 0, 0}, make([]byte, 9000)} {
		feeds(t, which+", behind the error", u, data, nil, why, false)
	}
}

// each is all places of so many bytes: every byte comes alone.
func each(many int) []int {
	return everyFew(many, 1)
}

// Each fault is told with its last byte, not ahead of that, and with what came of the blocks ahead of it; from then on always.
func TestK4Wrong(t *testing.T) {
	for _, w := range wrongs() {
		name := w.name + " behind " + w.after.name
		b := w.all()
		u := unpacker(t)
		feeds(t, name, u, append(slices.Clone(b), 0, 1, 2), w.after.data, w.why, false)
		stays(t, name, u, w.why)

		u = unpacker(t)
		feeds(t, name, u, w.after.packed, w.after.data, api.OK, false)
		for i := range w.bytes {
			last := i == len(w.bytes)-1
			done := w.why == api.ErrPackMore && i == len(w.bytes)-2
			if !last {
				feeds(t, name, u, w.bytes[i:i+1], nil, api.OK, done)
				feeds(t, name, u, nil, nil, api.OK, done)
				continue
			}
			feeds(t, name, u, w.bytes[i:], nil, w.why, false)
		}
		stays(t, name, u, w.why)
	}
}

// The bytes of a block come with its last byte.
func TestK4Blocks(t *testing.T) {
	u := unpacker(t)
	feeds(t, "nothing", u, nil, nil, api.OK, false)
	feeds(t, "the head", u, []byte{80}, nil, api.OK, false)
	feeds(t, "the head", u, []byte{1}, nil, api.OK, false)
	feeds(t, "a stored block", u, []byte{0, 0, 3, 97, 98}, nil, api.OK, false)
	feeds(t, "a stored block", u, []byte{99}, []byte("abc"), api.OK, false)
	block := coded(4, threes, "0"+lone(threes, match(3, 1)))
	feeds(t, "a coded block", u, block[:len(block)-1], nil, api.OK, false)
	feeds(t, "a coded block, and some of the next one", u, append(block[len(block)-1:], 0, 0), []byte("aaaa"), api.OK, false)
	feeds(t, "two blocks", u, []byte{1, 120, 0, 0, 2, 121, 122, 2}, []byte("xyz"), api.OK, false)
	end := endBytes([]byte("abcaaaaxyz"))[1:]
	feeds(t, "the sum", u, end[:3], nil, api.OK, false)
	feeds(t, "the sum", u, end[3:], nil, api.OK, true)
	feeds(t, "nothing behind it", u, nil, nil, api.OK, true)
	feeds(t, "nothing behind it", u, []byte{}, nil, api.OK, true)
	feeds(t, "a byte behind it", u, []byte{0}, nil, api.ErrPackMore, false)
	stays(t, "a byte behind it", u, api.ErrPackMore)
}

// All in one piece, the end too, and what is wrong behind it.
func TestK4Whole(t *testing.T) {
	data := text(rand.New(rand.NewSource(1)), 10000)
	b := modelPack(data)
	feeds(t, "all", unpacker(t), b, data, api.OK, true)
	feeds(t, "all, and a byte", unpacker(t), append(slices.Clone(b), 80), data, api.ErrPackMore, false)
	feeds(t, "all, but for a byte", unpacker(t), b[:len(b)-1], data, api.OK, false)
	feeds(t, "all, and a wrong sum", unpacker(t), flipped(b, len(b)-1, 1), data, api.ErrPackSum, false)
}

// Packed bytes of all kinds, in pieces of every size.
func TestK4Pieces(t *testing.T) {
	for i, s := range samples(41, 5000) {
		b := modelPack(s.data)
		for _, size := range []int{64, 255, 1000, 4096, 4103, 9000} {
			inOrder(t, fmt.Sprintf("%s, %d a piece", s.name, size), b, everyFew(len(b), size))
		}
		draw := rand.New(rand.NewSource(int64(i)))
		for range 5 {
			inOrder(t, s.name, b, someCuts(draw, len(b)))
		}
	}
}

// Packed bytes byte by byte, and in small pieces.
func TestK4Bytes(t *testing.T) {
	draw := rand.New(rand.NewSource(42))
	for _, s := range samples(43, 300) {
		b := modelPack(s.data)
		for _, size := range []int{1, 2, 3, 5, 7} {
			inOrder(t, s.name, b, everyFew(len(b), size))
		}
	}
	for range 40 {
		b, _ := anyPacked(draw)
		inOrder(t, "what was packed by lot", b[:min(len(b), 400)], each(min(len(b), 400)))
	}
}

// What is spoilt by lot, cut by lot, told as the model reads it.
func TestK4Spoilt(t *testing.T) {
	draw := rand.New(rand.NewSource(44))
	done := map[api.Errno]int{}
	for range 1500 {
		b, _ := anyPacked(draw)
		b = spoilt(draw, b)
		_, e := modelUnpack(b)
		done[e]++
		inOrder(t, "what is spoilt", b, someCuts(draw, len(b)))
		if len(b) < 200 {
			inOrder(t, "what is spoilt, byte by byte", b, each(len(b)))
		}
	}
	for _, e := range []api.Errno{api.OK, api.ErrPackHead, api.ErrPackBlock, api.ErrPackCode, api.ErrPackBits, api.ErrPackMatch, api.ErrPackSum, api.ErrPackShort, api.ErrPackMore} {
		if done[e] < 5 {
			t.Errorf("the lot has drawn the answer %d only %d times", e, done[e])
		}
	}
}

// Matches go back over blocks that were told long ago.
func TestK4FarBack(t *testing.T) {
	wild := lot(rand.New(rand.NewSource(5)), 4096, 256)
	for _, d := range []int{1, 4096, 8190, 8191} {
		u := unpacker(t)
		feeds(t, "the head", u, []byte{80, 1}, nil, api.OK, false)
		var data []byte
		for range 5 {
			feeds(t, "two blocks", u, slices.Concat(storedBytes(wild), storedBytes(wild)), slices.Concat(wild, wild), api.OK, false)
			data = slices.Concat(data, wild, wild)
			more := match(257, d).behind(slices.Clone(data))
			feeds(t, "a match", u, coded(257, longs, lone(longs, match(257, d))), more[len(data):], api.OK, false)
			data = more
		}
		feeds(t, "the end", u, endBytes(data), nil, api.OK, true)
	}
}

// As many bytes as may come, in pieces; one more is told with its n.
func TestK4Long(t *testing.T) {
	b, data := full(0)
	for _, size := range []int{100, 4096, 70000} {
		u := unpacker(t)
		var come []byte
		for p := range slices.Chunk(b, size) {
			x, e := writes(t, u, p)
			if come = append(come, x...); e != api.OK || u.Done() {
				t.Fatalf("K4: Write = %d, done %v", e, u.Done())
			}
		}
		same(t, "K4: all that may come", come, data)
		feeds(t, "the kind of one block more", u, []byte{0}, nil, api.OK, false)
		feeds(t, "of its n a byte", u, []byte{0}, nil, api.OK, false)
		feeds(t, "n", u, []byte{1}, nil, api.ErrPackLong, false)
		stays(t, "one byte more", u, api.ErrPackLong)
	}
	feeds(t, "in one piece", unpacker(t), slices.Concat(b, []byte{1, 16, 0, 9}), data, api.ErrPackLong, false)
	feeds(t, "in one piece", unpacker(t), slices.Concat(b, endBytes(data)), data, api.OK, true)
}

// A body of as many bytes as there may be: it comes byte by byte, and is looked at when it is whole.
func TestK4LongBody(t *testing.T) {
	u := unpacker(t)
	feeds(t, "a block's beginning", u, []byte{80, 1, 1, 0, 1, 255, 255}, nil, api.OK, false)
	for range 65534 {
		if b, e := u.Write([]byte{0}); len(b) != 0 || e != api.OK {
			t.Fatalf("K4: Write = %s, %d", short(b), e)
		}
	}
	feeds(t, "its last byte", u, []byte{0}, nil, api.ErrPackCode, false)
}

// Two unpackers have nothing to do with one another.
func TestK4Apart(t *testing.T) {
	one, other := unpacker(t), unpacker(t)
	feeds(t, "one", one, []byte{80, 1, 0, 0, 2, 7}, nil, api.OK, false)
	feeds(t, "the other", other, []byte{81}, nil, api.ErrPackHead, false)
	feeds(t, "one", one, []byte{8}, []byte{7, 8}, api.OK, false)
	feeds(t, "the other", other, nil, nil, api.ErrPackHead, false)
	feeds(t, "one", one, endBytes([]byte{7, 8}), nil, api.OK, true)
}
