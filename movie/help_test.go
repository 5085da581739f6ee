package movie_test

import (
	"math"
	"math/rand"
	"slices"
	"testing"

	"arcade/api"
	"arcade/movie"
)

// The places of a picture.
const thePlaces = 23040

// far are numbers that are beyond all bounds.
var far = []int{math.MinInt, math.MinInt + 600, math.MinInt32, -65536, -600, -256, -255, -2, -1, 1 << 16, 1<<16 + 1, 1 << 24, 1 << 32, 1<<32 + 1, 1<<40 + 2, math.MaxInt32, math.MaxInt - 300, math.MaxInt}

func is(t *testing.T, what string, got, want any) {
	t.Helper()
	if got != want {
		t.Errorf("%s = %v, want %v", what, got, want)
	}
}

// same holds lists against each other.
func same[T comparable](t *testing.T, what string, got, want []T) {
	t.Helper()
	if !slices.Equal(got, want) {
		t.Errorf("%s: %d items are not the %d that they should be", what, len(got), len(want))
	}
}

// alike holds frames against each other.
func alike(t *testing.T, what string, got, want api.Frame) {
	t.Helper()
	if !slices.Equal(got.Pixels, want.Pixels) || got.Clocks != want.Clocks || got.Carry != want.Carry || got.Locked != want.Locked {
		t.Errorf("%s: a frame of %d places, %d clocks, carry %d is not the one of %d, %d, %d", what, len(got.Pixels), got.Clocks, got.Carry, len(want.Pixels), want.Clocks, want.Carry)
	}
}

// empty holds that a frame is none.
func empty(t *testing.T, what string, got api.Frame) {
	t.Helper()
	alike(t, what, got, api.Frame{})
}

// holds holds a movie against what it should be, marks and all.
func holds(t *testing.T, what string, m *movie.Movie, want film) {
	t.Helper()
	if m == nil {
		t.Fatalf("%s: there is no movie", what)
	}
	is(t, what+": Info", m.Info(), want.info())
	same(t, what+": Buttons", m.Buttons(), want.keys)
	same(t, what+": Sums", m.Sums(), want.sums)
	same(t, what+": Bytes", m.Bytes(), want.bytes(t))
}

// newRecorder is a recorder, and what it should be.
func newRecorder(t *testing.T, rom, save []byte, every int) (*movie.Recorder, *shot) {
	t.Helper()
	r, e := movie.New(rom, save, every)
	if r == nil || e != api.OK {
		t.Fatalf("W1: New of %d bytes, a save of %d, EVERY %d = %d", len(rom), len(save), every, e)
	}
	return r, shotOf(t, rom, save, every)
}

// records has both record a frame with each of these buttons.
func records(t *testing.T, r *movie.Recorder, s *shot, keys ...int) {
	t.Helper()
	for _, k := range keys {
		f, e := r.Frame(k)
		is(t, "W1: Frame", e, api.OK)
		alike(t, "W1: Frame", f, s.frame(t, k))
	}
}

// recorded is a movie of the buttons, and what it should be.
func recorded(t *testing.T, rom []byte, every int, keys ...int) (*movie.Movie, film) {
	t.Helper()
	r, s := newRecorder(t, rom, nil, every)
	records(t, r, s, keys...)
	return r.Movie(), s.now()
}

// plays is a player, and what it should be.
func plays(t *testing.T, m *movie.Movie, f film, rom []byte) (*movie.Player, *show) {
	t.Helper()
	p, e := m.Play(rom)
	if p == nil || e != api.OK {
		t.Fatalf("W7: Play = %d", e)
	}
	s, _ := showOf(t, f, rom)
	stands(t, "W7: Play", p, s)
	return p, s
}

// stands holds where a player is against where it should be.
func stands(t *testing.T, what string, p *movie.Player, s *show) {
	t.Helper()
	is(t, what+": At", p.At(), s.at)
	same(t, what+": State", p.State(), s.console.State())
}

// goesOn has both show the next frame.
func goesOn(t *testing.T, what string, p *movie.Player, s *show) api.Errno {
	t.Helper()
	f, e := p.Next()
	want, g := s.next()
	is(t, what+": Next", e, g)
	alike(t, what+": Next", f, want)
	stands(t, what, p, s)
	return e
}

// seeks has both go to a place.
func seeks(t *testing.T, what string, p *movie.Player, s *show, place int) api.Errno {
	t.Helper()
	e := p.Seek(place)
	is(t, what+": Seek", e, s.seek(t, place))
	stands(t, what, p, s)
	return e
}

// buttons are of so many frames, of all kinds.
func buttons(many int) []int {
	draw := rand.New(rand.NewSource(int64(many)))
	keys := make([]int, many)
	for i := range keys {
		switch i % 4 {
		case 0:
			keys[i] = 255
		case 1:
			keys[i] = 1 << draw.Intn(8)
		case 2:
			keys[i] = 0
		default:
			keys[i] = draw.Intn(256)
		}
	}
	return keys
}

// roomy is a list with spare room, all of it filled.
func roomy(list []byte) []byte {
	long := append(slices.Clone(list), slices.Repeat([]byte{0xa5}, 40)...)
	return long[:len(list)]
}

// spared holds that a roomy list is as it was, its room too.
func spared(t *testing.T, what string, list, was []byte) {
	t.Helper()
	same(t, what+": a list that was handed in", list, was)
	same(t, what+": its spare room", list[len(list):len(list)+40], slices.Repeat([]byte{0xa5}, 40))
}

// scratch writes over a list and its spare room.
func scratch(list []byte) {
	whole := list[:cap(list)]
	for i := range whole {
		whole[i] ^= 0xff
	}
}
