package movie_test

import (
	"bytes"
	"encoding/binary"
	"fmt"
	"math/rand"
	"slices"
	"testing"

	"arcade/api"
	"arcade/movie"
	"arcade/pack"
)

// read is the movie of bytes that are some.
func read(t *testing.T, what string, data []byte) *movie.Movie {
	t.Helper()
	m, e := movie.Read(data)
	if m == nil || e != api.OK {
		t.Fatalf("%s: Read of %d bytes = %v, %d", what, len(data), m != nil, e)
	}
	return m
}

// refused holds that bytes are none of a movie's.
func refused(t *testing.T, what string, data []byte) {
	t.Helper()
	if m, e := movie.Read(data); m != nil || e != api.ErrMovieForm {
		t.Errorf("W3: %s: Read of %d bytes = %v, %d", what, len(data), m != nil, e)
	}
}

// summed is bytes with their sum behind them, as a movie's end with it.
func summed(data []byte) []byte {
	return binary.BigEndian.AppendUint32(slices.Clone(data), uint32(crc(data)))
}

// Movies that are alike have the same bytes, however they were made.
func TestW3Alike(t *testing.T) {
	t.Parallel()
	keys := buttons(6)
	for _, c := range cartridges(t) {
		for _, every := range []int{1, 4} {
			r, s := newRecorder(t, c.rom, c.save, every)
			records(t, r, s, keys...)
			m, want := r.Movie(), s.film.bytes(t)
			what := fmt.Sprintf("W3: %s, EVERY %d", c.name, every)
			same(t, what, m.Bytes(), want)
			same(t, what+", again", m.Bytes(), want)
			same(t, what+", read", read(t, what, want).Bytes(), want)
			cut, _ := m.Cut(0, 6)
			same(t, what+", cut", cut.Bytes(), want)
			p, _ := m.Play(c.rom)
			p.Seek(6)
			same(t, what+", recorded from its end", p.Record().Movie().Bytes(), want)
			a, _ := m.Cut(0, 4)
			b, _ := m.Cut(4, 6)
			j, _ := movie.Join(a, b)
			same(t, what+", joined", j.Bytes(), want)
		}
	}
}

// Movies that differ in one thing alone have other bytes.
func TestW3Differ(t *testing.T) {
	t.Parallel()
	quiet := late(t, 200, seen, 85)
	made := func(bytes []byte, every int, keys ...int) []byte {
		m, _ := recorded(t, bytes, every, keys...)
		return m.Bytes()
	}
	r, _ := newRecorder(t, quiet, kept(8192, 255), 2)
	r.Frame(0)
	r.Frame(0)
	want := made(quiet, 2, 0, 0)
	for what, other := range map[string][]byte{
		"the ROM's sum": made(withSum(quiet, 5), 2, 0, 0),
		"the start":     r.Movie().Bytes(),
		"the buttons":   made(quiet, 2, 0, 1),
		"the pictures":  made(withSum(late(t, 1, seen, 85), crc(quiet)), 2, 0, 0),
		"the marks":     made(withSum(late(t, 1, unseen, 85), crc(quiet)), 2, 0, 0),
		"how many":      made(quiet, 2, 0),
	} {
		if bytes.Equal(want, other) {
			t.Errorf("W3: %s: other movies have the same bytes", what)
		}
	}
	if bytes.Equal(made(quiet, 3), made(quiet, 4)) {
		t.Error("W3: EVERY: other movies have the same bytes")
	}
	longer := withSum(rom(t, 3, 1, 2), 5)
	if bytes.Equal(made(withSum(rom(t, 3, 0, 2), 5), 3), made(longer, 3)) {
		t.Error("W3: the ROM's length: other movies have the same bytes")
	}
}

// States stand there packed, and there are no more bytes than may be.
func TestW3Packed(t *testing.T) {
	t.Parallel()
	carts := append(cartridges(t), cartridge{"the longest save", rom(t, 0x1b, 0, 4, painter("$a000", 11)), kept(131072, 255)})
	for _, c := range carts {
		for _, every := range []int{1, 2, 5} {
			for _, many := range []int{0, 4, 5} {
				r, s := newRecorder(t, c.rom, c.save, every)
				records(t, r, s, buttons(many)...)
				told := r.Movie().Bytes()
				bound := 100 + 16*many
				for place, state := range s.film.states {
					packed, _ := pack.Pack(state)
					bound += 8 + len(packed)
					if !bytes.Contains(told, packed) {
						t.Errorf("W3: %s, EVERY %d: the state at %d does not stand there packed", c.name, every, place)
					}
				}
				if len(told) > bound {
					t.Errorf("W3: %s, EVERY %d, %d frames: %d bytes, and not %d", c.name, every, many, len(told), bound)
				}
			}
		}
	}
}

// The bound for as many frames as may be, and for none.
func TestW3Bound(t *testing.T) {
	t.Parallel()
	m, f := recorded(t, rom(t, 0, 0, 0, painter("$c000", 3)), 150, buttons(api.MaxMovie)...)
	bound := 100 + 16*api.MaxMovie
	for _, state := range f.states {
		packed, _ := pack.Pack(state)
		bound += 8 + len(packed)
	}
	if n := len(m.Bytes()); n > bound {
		t.Errorf("W3: %d bytes, and not %d", n, bound)
	}
	holds(t, "W3: MaxMovie frames", read(t, "W3", m.Bytes()), f)
}

// A byte that is turned, in any way; all bytes of a small movie, and of one with marks.
func TestW3Turned(t *testing.T) {
	t.Parallel()
	small, _ := recorded(t, rom(t, 0, 0, 0, painter("$c000", 3)), api.MaxEvery, 5, 0, 9)
	for what, m := range map[string]*movie.Movie{"no mark": small, "no frames": first(recorded(t, plain(t), 2))} {
		data := m.Bytes()
		for i := range data {
			for by := 1; by < 256; by++ {
				data[i] ^= byte(by)
				refused(t, fmt.Sprintf("%s, byte %d turned by %d", what, i, by), data)
				data[i] ^= byte(by)
			}
		}
		same(t, "W3: as it was", read(t, "W3", data).Bytes(), data)
	}
	data := first(recorded(t, late(t, 2, seen, 85), 1, buttons(4)...)).Bytes()
	for i := range data {
		for _, by := range []byte{1, 2, 128, 255, byte(1 + i%255)} {
			turned := slices.Clone(data)
			turned[i] ^= by
			refused(t, fmt.Sprintf("marks, byte %d turned by %d", i, by), turned)
		}
	}
}

func first(m *movie.Movie, _ film) *movie.Movie {
	return m
}

// Fewer bytes, and more, whatever they are.
func TestW3Length(t *testing.T) {
	t.Parallel()
	for _, m := range []*movie.Movie{
		first(recorded(t, plain(t), 2)),
		first(recorded(t, plain(t), 2, 1, 2, 3)),
		first(recorded(t, plain(t), 1, 1, 2, 3)),
	} {
		data := m.Bytes()
		for n := range data {
			refused(t, "fewer", data[:n])
			if n%7 == 0 || n < 100 || len(data)-4 < n { // 4 fewer, and their sum, are all
				refused(t, "fewer, and their sum", summed(data[:n]))
			}
		}
		for b := range 256 {
			more := append(slices.Clone(data), byte(b))
			refused(t, "one more", more)
			if b%50 == 0 {
				refused(t, "one more, and their sum", summed(more))
			}
		}
		for n := range 8 {
			zeros := append(slices.Clone(data), make([]byte, n+1)...)
			refused(t, "bytes 0 more", zeros)
			refused(t, "bytes 0 more, and their sum", summed(zeros))
		}
		refused(t, "twice", slices.Concat(data, data))
		refused(t, "twice, and their sum", summed(slices.Concat(data, data)))
		refused(t, "their sum, again", summed(data))
		refused(t, "a byte ahead", append([]byte{0}, data...))
		refused(t, "a mark ahead", append([]byte{77, 1}, data...))
		refused(t, "without the first", data[1:])
	}
}

// Bytes of none.
func TestW3None(t *testing.T) {
	t.Parallel()
	m, f := recorded(t, plain(t), 2, 1, 2, 3)
	packed, _ := pack.Pack(f.states[0])
	delta, _ := pack.Delta(f.states[0], f.states[2])
	for what, data := range map[string][]byte{
		"nil": nil, "empty": {}, "four bytes 0": make([]byte, 4), "many bytes 0": make([]byte, 5000),
		"a ROM": plain(t), "a state": f.states[2], "packed bytes": packed, "a delta": delta,
		"a movie that is packed": packedOf(m.Bytes()),
	} {
		refused(t, what, data)
		refused(t, what+", and their sum", summed(data))
	}
	draw := rand.New(rand.NewSource(31))
	for range 3000 {
		data := make([]byte, draw.Intn(300))
		draw.Read(data)
		refused(t, "by lot", data)
		copy(data, []byte{77, 1, 0, 0, 128, 0, 1, 2, 3, 4, 0, byte(draw.Intn(3)), 0, byte(draw.Intn(3))})
		refused(t, "by lot behind a head, and their sum", summed(data))
	}
}

func packedOf(data []byte) []byte {
	packed, _ := pack.Pack(data)
	return packed
}

// Where the head's numbers stand.
const (
	everyAt  = 10
	framesAt = 12
	framesTo = 14
)

// Bytes whose sum is right, but that no movie tells.
func TestW3Made(t *testing.T) {
	t.Parallel()
	_, f := recorded(t, plain(t), 2, 1, 2, 3)
	whole := f.bytes(t)
	data := whole[:len(whole)-4]
	turned := func(at int, list ...byte) []byte {
		made := slices.Clone(data)
		copy(made[at:], list)
		return summed(made)
	}
	same(t, "the same bytes", turned(0, 77, 1), whole)
	for b := range 256 {
		if b%16 == 13 && b != 77 {
			refused(t, "another mark", turned(0, byte(b)))
		}
		if b%16 == 1 && b != 1 {
			refused(t, "another version", turned(1, byte(b)))
		}
		if b != 2 && b != 3 { // of three frames these have one mark
			refused(t, "another EVERY", turned(everyAt, 0, byte(b)))
		}
		if b != 3 {
			refused(t, "other frames", turned(framesAt, 0, byte(b)))
		}
		if b != 0 {
			refused(t, "a far greater EVERY", turned(everyAt, byte(b), 2))
			refused(t, "far more frames", turned(framesAt, byte(b), 3))
		}
	}
	state := func(list []byte) []byte {
		return append(binary.BigEndian.AppendUint32(nil, uint32(len(list))), list...)
	}
	head := data[:framesTo+5*3]
	start, mark := packedOf(f.states[0]), packedOf(f.states[2])
	same(t, "by hand", summed(slices.Concat(head, state(start), state(mark))), whole)
	for what, rest := range map[string][]byte{
		"no states":                nil,
		"no mark":                  state(start),
		"a mark too many":          slices.Concat(state(start), state(mark), state(mark)),
		"a byte too many":          slices.Concat(state(start), state(mark), []byte{0}),
		"a state that is stored":   slices.Concat(state(stored(f.states[0])), state(mark)),
		"a mark that is stored":    slices.Concat(state(start), state(stored(f.states[2]))),
		"a state without its end":  slices.Concat(state(start[:len(start)-1]), state(mark)),
		"a state, and more":        slices.Concat(state(append(slices.Clone(start), 0)), state(mark)),
		"a state that is not":      slices.Concat(state(f.states[0]), state(mark)),
		"a state of no bytes":      slices.Concat(state(nil), state(mark)),
		"a mark that is not there": slices.Concat(state(start), []byte{255, 255, 255, 255}),
		"half a length":            slices.Concat(state(start), []byte{0, 0}),
		"a mark that is too short": slices.Concat(state(start), state(mark)[:len(mark)]),
	} {
		refused(t, what, summed(slices.Concat(head, rest)))
	}
}

// stored is bytes packed as they are, as no Pack does it with them.
func stored(data []byte) []byte {
	list := []byte{80, 1}
	for block := range slices.Chunk(data, api.MaxBlock) {
		list = append(binary.BigEndian.AppendUint16(append(list, 0), uint16(len(block))), block...)
	}
	return binary.BigEndian.AppendUint32(append(list, 2), uint32(crc(data)))
}

// EVERY and the frames that are told have bounds, though nothing else is wrong.
func TestW3Bounds(t *testing.T) {
	t.Parallel()
	_, f := recorded(t, rom(t, 0, 0, 0), 1)
	longer := func(many, every int) film {
		g := f
		g.every = every
		g.keys, g.sums = make([]byte, many), make([]int, many)
		g.states = map[int][]byte{}
		for place := 0; place <= many; place += every {
			g.states[place] = f.states[0]
		}
		return g
	}
	for _, many := range []int{0, 1, 255, 256, 299, api.MaxMovie} {
		for _, every := range []int{150, 255, 256, 300, 301, api.MaxEvery} {
			g := longer(many, every)
			holds(t, "W3: within the bounds", read(t, "W3: within the bounds", g.bytes(t)), g)
		}
	}
	refused(t, "one frame too many", longer(api.MaxMovie+1, api.MaxEvery).bytes(t))
	refused(t, "many frames too many", longer(65535, api.MaxEvery).bytes(t))
	refused(t, "EVERY too great", longer(1, api.MaxEvery+1).bytes(t))
	refused(t, "EVERY far too great", longer(1, 65535).bytes(t))
	none := f.bytes(t)
	none = none[:len(none)-4]
	none[everyAt+1] = 0
	refused(t, "EVERY 0", summed(none))
}

// What is read does all that the one does that told it.
func TestW3Read(t *testing.T) {
	t.Parallel()
	for _, c := range cartridges(t) {
		for _, every := range []int{2, 5} {
			r, s := newRecorder(t, c.rom, c.save, every)
			records(t, r, s, buttons(5)...)
			f := s.now()
			m := read(t, "W3", r.Movie().Bytes())
			holds(t, "W3: Read of "+c.name, m, f)
			n, e := m.Check(c.rom)
			is(t, "W3: Check", n, 5)
			is(t, "W3: Check", e, api.OK)
			cuts(t, m, f, 0, 3)
			cuts(t, m, f, 2, 3)
			at, e := movie.Parts(m, r.Movie())
			is(t, "W3: Parts", at, 5)
			is(t, "W3: Parts", e, api.OK)
			end, h := cuts(t, m, f, 5-5%every, 5-5%every), f.cut(5-5%every, 5-5%every)
			joins(t, cuts(t, m, f, 0, 5-5%every), end, f.cut(0, 5-5%every), h)
			p, x := plays(t, m, f, c.rom)
			for _, place := range []int{4, 1, 5, 0} {
				seeks(t, "W3: Read", p, x, place)
				goesOn(t, "W3: Read", p, x)
			}
			on, y := p.Record(), x.record(t)
			records(t, on, y, 3, 4)
			holds(t, "W3: recorded on", on.Movie(), y.now())
		}
	}
}

// The bytes that are handed in are not written into, and not kept.
func TestW3Lists(t *testing.T) {
	t.Parallel()
	_, f := recorded(t, plain(t), 1, 1, 2, 3)
	want := f.bytes(t)
	data := roomy(want)
	m := read(t, "W3", data)
	spared(t, "W3: Read", data, want)
	scratch(data)
	holds(t, "W3: behind the bytes are written over", m, f)
	wrong := roomy(want[:len(want)-1])
	refused(t, "fewer", wrong)
	spared(t, "W3: Read of fewer", wrong, want[:len(want)-1])
}
