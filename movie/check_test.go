package movie_test

import (
	"fmt"
	"math/rand"
	"runtime"
	"slices"
	"sync"
	"testing"
	"time"

	"arcade/api"
	"arcade/movie"
)

// checks holds what is told of a ROM against the model.
func checks(t *testing.T, what string, m *movie.Movie, f film, rom []byte) (int, api.Errno) {
	t.Helper()
	n, e := m.Check(rom)
	at, why := f.check(t, rom)
	if n != at || e != why {
		t.Errorf("W6: %s: Check = %d, %d, want %d, %d", what, n, e, at, why)
	}
	return n, e
}

// found holds that this is told.
func found(t *testing.T, what string, m *movie.Movie, f film, rom []byte, at int, why api.Errno) {
	t.Helper()
	if n, e := checks(t, what, m, f, rom); n != at || e != why {
		t.Errorf("W6: %s: Check = %d, %d, and not %d, %d", what, n, e, at, why)
	}
}

// With the ROM that it was recorded with nothing is wrong.
func TestW6Right(t *testing.T) {
	t.Parallel()
	for _, c := range cartridges(t) {
		for _, every := range []int{1, 2, 3, 5, 6, api.MaxEvery} {
			r, s := newRecorder(t, c.rom, c.save, every)
			for _, many := range []int{0, 1, 4} {
				records(t, r, s, buttons(many)...)
				m := r.Movie()
				found(t, c.name, m, s.now(), c.rom, s.film.frames(), api.OK)
				holds(t, "W6: behind Check", m, s.now())
			}
		}
	}
}

// ROMs that are none are told as the console's New tells them; and nothing but that.
func TestW6Refused(t *testing.T) {
	t.Parallel()
	for _, keys := range [][]int{nil, {1, 2, 3}} {
		m, _ := recorded(t, plain(t), 2, keys...)
		for want, bytes := range broken(t) {
			if n, e := m.Check(bytes); n != 0 || e != want {
				t.Errorf("W6: Check of a ROM that is none = %d, %d, want %d", n, e, want)
			}
		}
		if n, e := m.Check(nil); n != 0 || e != api.ErrCartLength {
			t.Errorf("W6: Check of no ROM = %d, %d", n, e)
		}
	}
}

// A console that does not take the start; without frames, too.
func TestW6State(t *testing.T) {
	t.Parallel()
	for _, keys := range [][]int{nil, {1}, {1, 2, 3}} {
		m, f := recorded(t, plain(t), 2, keys...)
		for _, other := range [][]byte{rom(t, 3, 0, 3), rom(t, 0, 0, 0), rom(t, 6, 0, 0), rom(t, 9, 0, 2)} {
			found(t, "a start that is not taken", m, f, other, 0, api.ErrMovieState)
		}
	}
	m, f := recorded(t, plain(t), 2)
	found(t, "another ROM, without frames", m, f, rom(t, 3, 0, 2), 0, api.OK)
}

// Machines that go another way from some frame on, in what is seen or in what is not, whatever EVERY is.
func TestW6Parted(t *testing.T) {
	t.Parallel()
	told := map[string]int{}
	for _, at := range []string{seen, unseen} {
		for every := 1; every <= 6; every++ {
			m, f := recorded(t, late(t, 200, at, 85), every, buttons(5)...)
			for limit := 1; limit <= 6; limit++ {
				n, e := checks(t, fmt.Sprintf("%s, EVERY %d, limit %d", at, every, limit), m, f, late(t, limit, at, 85))
				if e == api.ErrMovieParted && n%every != 0 {
					told["a frame"]++
				} else if e == api.ErrMovieParted && at == unseen {
					told["an end"]++
				} else if e == api.OK {
					told["nothing"]++
				}
			}
		}
	}
	if told["a frame"] < 5 || told["an end"] < 10 || told["nothing"] < 5 {
		t.Errorf("W6: what was told is too little: %v", told)
	}
}

// A piece whose end is wrong is told ahead of the next one, whose beginning is not taken; and a frame ahead of both.
func TestW6Order(t *testing.T) {
	t.Parallel()
	five, one := rom(t, 0x1b, 0, 2, lowering), rom(t, 3, 0, 2, lowering)
	m, f := recorded(t, five, 2, 0, 0, 0, 0, 0)
	found(t, "an end and a beginning", m, f, one, 2, api.ErrMovieParted)
	m, f = recorded(t, five, 5, 0, 0, 0, 0, 0)
	found(t, "an end, and nothing behind it", m, f, one, 5, api.ErrMovieParted)
	m, f = recorded(t, five, 6, 0, 0, 0, 0, 0)
	found(t, "no mark", m, f, one, 5, api.OK)
	g := f.cut(0, 5)
	g.sums[3] ^= 1
	found(t, "a frame", read(t, "W6", g.bytes(t)), g, one, 3, api.ErrMovieParted)
	m, f = recorded(t, five, 1, 0, 0)
	found(t, "a beginning", cuts(t, m, f, 1, 2), f.cut(1, 2), one, 0, api.ErrMovieState)
}

// spoilt is a film in which some sums, and some states, are others.
func spoilt(draw *rand.Rand, f film) film {
	g := f.cut(0, f.frames())
	for range draw.Intn(3) {
		g.sums[draw.Intn(len(g.sums))] ^= 1 << draw.Intn(32)
	}
	for range draw.Intn(3) {
		place := draw.Intn(f.frames()/f.every+1) * f.every
		state := slices.Clone(g.states[place])
		switch draw.Intn(4) {
		case 0:
			state = state[:len(state)-1] // it is not taken
		case 1:
			state[0] = 1 // likewise: no carry
		case 2:
			state[len(state)-40] ^= 1 // of HIGH
		default:
			state[len(state)-5-176-100] ^= 16 // of WORK
		}
		g.states[place] = state
	}
	return g
}

// Movies in which anything is another one: the first of all that is wrong is told.
func TestW6Spoilt(t *testing.T) {
	t.Parallel()
	draw := rand.New(rand.NewSource(61))
	bytes := plain(t)
	told := map[api.Errno]int{}
	for every := 1; every <= 5; every++ {
		_, f := recorded(t, bytes, every, buttons(5)...)
		for range 16 {
			g := spoilt(draw, f)
			m := read(t, "W6", g.bytes(t))
			_, e := checks(t, fmt.Sprintf("EVERY %d", every), m, g, bytes)
			told[e]++
		}
	}
	if told[api.OK] < 5 || told[api.ErrMovieState] < 5 || told[api.ErrMovieParted] < 15 {
		t.Errorf("W6: what was told is too little: %v", told)
	}
}

// Each sum, and each mark, by itself.
func TestW6Each(t *testing.T) {
	t.Parallel()
	bytes := plain(t)
	for every := 1; every <= 4; every++ {
		_, f := recorded(t, bytes, every, buttons(4)...)
		for i := range 4 {
			g := f.cut(0, 4)
			g.sums[i]++
			found(t, "a sum", read(t, "W6", g.bytes(t)), g, bytes, i, api.ErrMovieParted)
		}
		for place := every; place <= 4; place += every {
			g := f.cut(0, 4)
			g.states[place] = slices.Clone(g.states[place])
			g.states[place][len(g.states[place])-40] ^= 1
			found(t, "a mark", read(t, "W6", g.bytes(t)), g, bytes, place, api.ErrMovieParted)
		}
	}
}

// Many pieces; what is told hangs on none of the ways in which they are shown.
func TestW6Many(t *testing.T) {
	t.Parallel()
	bytes := rom(t, 0, 0, 0, painter("$c000", 3))
	_, f := recorded(t, bytes, 1, buttons(70)...)
	for _, wrong := range [][]int{nil, {69}, {40, 69}, {17, 16, 33}, {15}, {0, 1, 2, 3, 69}} {
		g := f.cut(0, 70)
		for _, i := range wrong {
			g.sums[i] ^= 256
		}
		m := read(t, "W6", g.bytes(t))
		at, why := 70, api.OK
		if len(wrong) > 0 {
			at, why = slices.Min(wrong), api.ErrMovieParted
		}
		for range 3 {
			n, e := m.Check(bytes)
			is(t, "W6: the number", n, at)
			is(t, "W6: what", e, why)
		}
	}
}

// Movies are shown side by side with others, and no goroutine is left. (It counts them: no other test may go on beside it.)
func TestW6Beside(t *testing.T) {
	bytes := plain(t)
	_, f := recorded(t, bytes, 2, buttons(6)...)
	g := f.cut(0, 6)
	g.sums[3]++
	right, wrong := read(t, "W6", f.bytes(t)), read(t, "W6", g.bytes(t))
	before := runtime.NumGoroutine()
	var numbers [12]int
	var all sync.WaitGroup
	for i := range numbers {
		all.Go(func() {
			m := right
			if i%2 == 1 {
				m = wrong
			}
			numbers[i], _ = m.Check(bytes)
		})
	}
	all.Wait()
	for i, n := range numbers {
		is(t, "W6: Check beside others", n, []int{6, 3}[i%2])
	}
	for range 100 {
		if runtime.NumGoroutine() <= before {
			return
		}
		time.Sleep(10 * time.Millisecond)
	}
	t.Errorf("W6: goroutines are left: %d, and there were %d", runtime.NumGoroutine(), before)
}

// The ROM is not written into.
func TestW6Lists(t *testing.T) {
	t.Parallel()
	m, _ := recorded(t, plain(t), 1, buttons(4)...)
	bytes := roomy(plain(t))
	n, e := m.Check(bytes)
	is(t, "W6: Check", n, 4)
	is(t, "W6: Check", e, api.OK)
	spared(t, "W6: Check", bytes, plain(t))
}
