package movie_test

import (
	"fmt"
	"slices"
	"testing"

	"arcade/api"
	"arcade/console"
	"arcade/movie"
)

// Each frame is the console's, and the movie is what was recorded, at each place.
func TestW1Frames(t *testing.T) {
	t.Parallel()
	for _, c := range cartridges(t) {
		for _, every := range []int{1, 2, 5, 6} {
			r, s := newRecorder(t, c.rom, c.save, every)
			what := fmt.Sprintf("W1: %s, EVERY %d", c.name, every)
			holds(t, what+", no frames", r.Movie(), s.now())
			for i, k := range buttons(5) {
				records(t, r, s, k)
				holds(t, fmt.Sprintf("%s, %d frames", what, i+1), r.Movie(), s.now())
			}
		}
	}
}

// EVERY has bounds.
func TestW1Every(t *testing.T) {
	t.Parallel()
	bytes := plain(t)
	for _, every := range append(slices.Clone(far), 0, api.MaxEvery+1) {
		if r, e := movie.New(bytes, nil, every); r != nil || e != api.ErrArg {
			t.Errorf("W1: New with EVERY %d = %v, %d", every, r != nil, e)
		}
	}
	for _, every := range []int{1, 2, 255, 256, api.MaxEvery - 1, api.MaxEvery} {
		r, s := newRecorder(t, bytes, nil, every)
		holds(t, "W1: New", r.Movie(), s.now())
	}
	is(t, "MaxEvery", api.MaxEvery, 600)
	is(t, "MaxMovie", api.MaxMovie, 300)
}

// What is wrong with a ROM or a save is told as the console's New tells it; EVERY is ahead of that.
func TestW1Refused(t *testing.T) {
	t.Parallel()
	none := func(bytes, save []byte, want api.Errno) {
		t.Helper()
		if r, e := movie.New(bytes, save, 1); r != nil || e != want {
			t.Errorf("W1: New of %d bytes and a save of %d = %v, %d, want %d", len(bytes), len(save), r != nil, e, want)
		}
		if r, e := movie.New(bytes, save, 0); r != nil || e != api.ErrArg {
			t.Errorf("W1: New with EVERY 0, too = %v, %d", r != nil, e)
		}
	}
	for e, bytes := range broken(t) {
		_, told := console.New(bytes, nil)
		is(t, "the console's error", told, e)
		none(bytes, nil, e)
		none(bytes, kept(8191, 255), e)
	}
	none(nil, nil, api.ErrCartLength)
	none(plain(t), kept(8191, 255), api.ErrCartSave)
	none(plain(t), kept(1, 255), api.ErrCartSave)
	none(rom(t, 0, 0, 0), kept(8192, 255), api.ErrCartSave)
	none(rom(t, 2, 0, 2), kept(8192, 255), api.ErrCartSave)
	none(rom(t, 6, 0, 0), kept(512, 16), api.ErrCartSave)
}

// Buttons have bounds; with others nothing is recorded, and nothing goes on.
func TestW1Buttons(t *testing.T) {
	t.Parallel()
	r, s := newRecorder(t, plain(t), nil, 2)
	for _, keys := range [][]int{{0, 255}, {1, 128, 254}, {16}} {
		for _, k := range append(slices.Clone(far), 256, 257) {
			f, e := r.Frame(k)
			is(t, "W1: Frame of buttons that are none", e, api.ErrArg)
			empty(t, "W1: Frame of buttons that are none", f)
		}
		holds(t, "W1: behind buttons that are none", r.Movie(), s.now())
		records(t, r, s, keys...)
	}
	holds(t, "W1: behind all", r.Movie(), s.now())
}

// All buttons that may be are recorded.
func TestW1AllButtons(t *testing.T) {
	t.Parallel()
	r, s := newRecorder(t, plain(t), nil, api.MaxEvery)
	for k := range 256 {
		records(t, r, s, k)
	}
	holds(t, "W1: all buttons", r.Movie(), s.now())
}

// MaxMovie frames may be recorded, and not one more.
func TestW1Long(t *testing.T) {
	t.Parallel()
	r, s := newRecorder(t, plain(t), nil, 150)
	records(t, r, s, buttons(api.MaxMovie)...)
	want := s.now()
	for _, k := range []int{0, 255, 7} {
		f, e := r.Frame(k)
		is(t, "W1: Frame, one more", e, api.ErrMovieLong)
		empty(t, "W1: Frame, one more", f)
		holds(t, "W1: MaxMovie frames", r.Movie(), want)
	}
	for _, k := range []int{-1, 256} {
		f, e := r.Frame(k)
		is(t, "W1: Frame of buttons that are none, one more", e, api.ErrArg)
		empty(t, "W1: Frame of buttons that are none, one more", f)
	}
	m := r.Movie()
	holds(t, "W1: MaxMovie frames", m, want)
	again, e := movie.Read(m.Bytes())
	is(t, "W3: Read of MaxMovie frames", e, api.OK)
	holds(t, "W3: MaxMovie frames", again, want)
	n, e := m.Check(plain(t))
	is(t, "W6: Check of MaxMovie frames", n, api.MaxMovie)
	is(t, "W6: Check of MaxMovie frames", e, api.OK)
}

// What is recorded later changes no movie that was told; to tell one changes nothing.
func TestW1Told(t *testing.T) {
	t.Parallel()
	for _, every := range []int{1, 2, 5} {
		r, s := newRecorder(t, plain(t), nil, every)
		asked, _ := newRecorder(t, plain(t), nil, every)
		var movies []*movie.Movie
		var films []film
		for _, k := range buttons(9) {
			movies, films = append(movies, r.Movie(), r.Movie()), append(films, s.now(), s.now())
			records(t, r, s, k)
			asked.Frame(k)
		}
		for i, m := range movies {
			holds(t, fmt.Sprintf("W1: EVERY %d, the movie %d", every, i), m, films[i])
		}
		holds(t, "W1: a recorder that was never asked", asked.Movie(), s.now())
	}
}

// The start is the console's State, with what a battery has kept.
func TestW1Start(t *testing.T) {
	t.Parallel()
	for _, c := range cartridges(t) {
		r, _ := newRecorder(t, c.rom, c.save, 4)
		p, e := r.Movie().Play(c.rom)
		if e != api.OK {
			t.Fatalf("W7: Play of %s = %d", c.name, e)
		}
		same(t, "W1: the start of "+c.name, p.State(), newConsole(t, c.rom, c.save).State())
	}
}

// The ROM and the save are not written into, and not kept.
func TestW1Lists(t *testing.T) {
	t.Parallel()
	bytes, save := roomy(plain(t)), roomy(kept(8192, 255))
	r, s := newRecorder(t, bytes, save, 2)
	records(t, r, s, 1, 2)
	spared(t, "W1: New", bytes, plain(t))
	spared(t, "W1: New", save, kept(8192, 255))
	scratch(bytes)
	scratch(save)
	records(t, r, s, 3, 4, 5)
	holds(t, "W1: behind the ROM is written over", r.Movie(), s.now())
}

// Pictures that come out are new memory.
func TestW1Pictures(t *testing.T) {
	t.Parallel()
	r, s := newRecorder(t, plain(t), nil, 1)
	for _, k := range buttons(5) {
		f, _ := r.Frame(k)
		alike(t, "W1: Frame", f, s.frame(t, k))
		is(t, "W1: places of a picture", len(f.Pixels), thePlaces)
		scratch(f.Pixels)
	}
	holds(t, "W1: behind pictures are written over", r.Movie(), s.now())
}
