package movie_test

import (
	"bytes"
	"encoding/binary"
	"hash/crc32"
	"slices"
	"testing"

	"arcade/api"
	"arcade/console"
	"arcade/pack"
)

// film is what a movie should be, kept as plainly as can be.
type film struct {
	size, romSum, every int
	states              map[int][]byte // by their places; the start's is 0
	keys                []byte
	sums                []int
}

func crc(data []byte) int {
	return int(crc32.ChecksumIEEE(data))
}

func (f film) frames() int {
	return len(f.keys)
}

func (f film) info() api.MovieInfo {
	return api.MovieInfo{Frames: f.frames(), Every: f.every, Sum: f.romSum, Size: f.size}
}

// cut is the frames between two places.
func (f film) cut(from, to int) film {
	g := film{size: f.size, romSum: f.romSum, every: f.every, states: map[int][]byte{}}
	g.keys, g.sums = slices.Clone(f.keys[from:to]), slices.Clone(f.sums[from:to])
	for place := from; place <= to; place += f.every {
		g.states[place-from] = f.states[place]
	}
	return g
}

// mayCut tells whether there is such a part.
func (f film) mayCut(from, to int) bool {
	return 0 <= from && from <= to && to <= f.frames() && from%f.every == 0
}

// joined is two, one behind the other, and why they are not.
func joined(f, g film) (film, api.Errno) {
	switch {
	case f.size != g.size || f.romSum != g.romSum:
		return film{}, api.ErrMovieRom
	case f.every != g.every || f.frames()%f.every != 0 || !bytes.Equal(f.states[f.frames()], g.states[0]):
		return film{}, api.ErrMoviePlace
	case f.frames()+g.frames() > api.MaxMovie:
		return film{}, api.ErrMovieLong
	}
	h := f.cut(0, f.frames())
	h.keys, h.sums = slices.Concat(f.keys, g.keys), slices.Concat(f.sums, g.sums)
	for place, state := range g.states {
		h.states[f.frames()+place] = state
	}
	return h, api.OK
}

// parts is the first frame in which two differ.
func parts(f, g film) int {
	n := 0
	for n < f.frames() && n < g.frames() && f.keys[n] == g.keys[n] && f.sums[n] == g.sums[n] {
		n++
	}
	return n
}

// goTo is a console that has gone to a place.
func (f film) goTo(t *testing.T, rom []byte, place int) (*console.Console, api.Errno) {
	t.Helper()
	from := place - place%f.every
	c := newConsole(t, rom, nil)
	if c.Load(f.states[from]) != api.OK {
		return nil, api.ErrMovieState
	}
	for _, k := range f.keys[from:place] {
		c.Frame(int(k))
	}
	return c, api.OK
}

// check goes through all numbers: at each of them the end of a piece, its beginning, and a frame, in this order.
func (f film) check(t *testing.T, rom []byte) (int, api.Errno) {
	t.Helper()
	var shown *console.Console // nil where a piece could not begin
	for n := 0; n <= f.frames(); n++ {
		if n > 0 && n%f.every == 0 && shown != nil && !bytes.Equal(shown.State(), f.states[n]) {
			return n, api.ErrMovieParted
		}
		if n == 0 || n%f.every == 0 && n < f.frames() {
			shown = newConsole(t, rom, nil)
			if shown.Load(f.states[n]) != api.OK {
				return n, api.ErrMovieState
			}
		}
		if n < f.frames() {
			if x, _ := shown.Frame(int(f.keys[n])); crc(x.Pixels) != f.sums[n] {
				return n, api.ErrMovieParted
			}
		}
	}
	return f.frames(), api.OK
}

// bytes is the film as it is told.
func (f film) bytes(t *testing.T) []byte {
	t.Helper()
	b := []byte{77, 1}
	b = binary.BigEndian.AppendUint32(b, uint32(f.size))
	b = binary.BigEndian.AppendUint32(b, uint32(f.romSum))
	b = binary.BigEndian.AppendUint16(b, uint16(f.every))
	b = binary.BigEndian.AppendUint16(b, uint16(f.frames()))
	for i, k := range f.keys {
		b = binary.BigEndian.AppendUint32(append(b, k), uint32(f.sums[i]))
	}
	for place := 0; place <= f.frames(); place += f.every {
		packed, e := pack.Pack(f.states[place])
		if e != api.OK {
			t.Fatalf("Pack of the state at %d = %d", place, e)
		}
		b = append(binary.BigEndian.AppendUint32(b, uint32(len(packed))), packed...)
	}
	return binary.BigEndian.AppendUint32(b, uint32(crc(b)))
}

// shot is what a recorder should be.
type shot struct {
	console *console.Console
	film    film
}

func shotOf(t *testing.T, rom, save []byte, every int) *shot {
	t.Helper()
	c := newConsole(t, rom, save)
	return &shot{c, film{size: len(rom), romSum: crc(rom), every: every, states: map[int][]byte{0: c.State()}}}
}

// frame is the next one, which is recorded.
func (s *shot) frame(t *testing.T, buttons int) api.Frame {
	t.Helper()
	x, e := s.console.Frame(buttons)
	if e != api.OK {
		t.Fatalf("a console's Frame(%d) = %d", buttons, e)
	}
	f := &s.film
	f.keys = append(f.keys, byte(buttons))
	f.sums = append(f.sums, crc(x.Pixels))
	if f.frames()%f.every == 0 {
		f.states[f.frames()] = s.console.State()
	}
	return x
}

// now is the film as it is now, which later frames do not change.
func (s *shot) now() film {
	return s.film.cut(0, s.film.frames())
}

// show is what a player should be.
type show struct {
	film    film
	rom     []byte
	console *console.Console
	at      int
}

// showOf is one, and why there is none.
func showOf(t *testing.T, f film, rom []byte) (*show, api.Errno) {
	t.Helper()
	c, e := f.goTo(t, rom, 0)
	return &show{film: f, rom: rom, console: c}, e
}

func (s *show) next() (api.Frame, api.Errno) {
	if s.at == s.film.frames() {
		return api.Frame{}, api.ErrMovieEnd
	}
	x, _ := s.console.Frame(int(s.film.keys[s.at]))
	s.at++
	if crc(x.Pixels) != s.film.sums[s.at-1] {
		return x, api.ErrMovieParted
	}
	return x, api.OK
}

func (s *show) seek(t *testing.T, place int) api.Errno {
	t.Helper()
	if place < 0 || place > s.film.frames() {
		return api.ErrMoviePlace
	}
	c, e := s.film.goTo(t, s.rom, place)
	if e == api.OK {
		s.console, s.at = c, place
	}
	return e
}

func (s *show) record(t *testing.T) *shot {
	t.Helper()
	c := newConsole(t, s.rom, nil)
	if e := c.Load(s.console.State()); e != api.OK {
		t.Fatalf("a console's Load = %d", e)
	}
	f := s.film.cut(0, s.at)
	f.size, f.romSum = len(s.rom), crc(s.rom)
	return &shot{c, f}
}

func newConsole(t *testing.T, rom, save []byte) *console.Console {
	t.Helper()
	c, e := console.New(rom, save)
	if c == nil || e != api.OK {
		t.Fatalf("a console's New = %d", e)
	}
	return c
}
