package movie_test

import (
	"fmt"
	"slices"
	"testing"

	"arcade/api"
	"arcade/movie"
)

// A player begins at place 0, and shows frame by frame what was recorded, to the end.
func TestW7Next(t *testing.T) {
	t.Parallel()
	for _, c := range cartridges(t) {
		r, s := newRecorder(t, c.rom, c.save, 2)
		records(t, r, s, buttons(5)...)
		p, x := plays(t, r.Movie(), s.now(), c.rom)
		for range 5 {
			is(t, "W7: Next of "+c.name, goesOn(t, "W7", p, x), api.OK)
		}
		same(t, "W7: the last state", p.State(), s.console.State())
		for range 2 {
			is(t, "W7: Next at the end", goesOn(t, "W7", p, x), api.ErrMovieEnd)
		}
		f, _ := p.Next()
		empty(t, "W7: Next at the end", f)
	}
}

// A movie without frames is at its end at once.
func TestW7None(t *testing.T) {
	t.Parallel()
	m, f := recorded(t, plain(t), 1)
	p, s := plays(t, m, f, plain(t))
	is(t, "W7: Next", goesOn(t, "W7", p, s), api.ErrMovieEnd)
	is(t, "W7: Seek(0)", seeks(t, "W7", p, s, 0), api.OK)
	is(t, "W7: Seek(1)", seeks(t, "W7", p, s, 1), api.ErrMoviePlace)
	is(t, "W7: Seek(-1)", seeks(t, "W7", p, s, -1), api.ErrMoviePlace)
	r, x := p.Record(), s.record(t)
	holds(t, "W7: Record", r.Movie(), f)
	records(t, r, x, 1, 2)
	holds(t, "W7: Record", r.Movie(), x.now())
}

// ROMs that are none, and such as do not take the start.
func TestW7Refused(t *testing.T) {
	t.Parallel()
	for _, keys := range [][]int{nil, {1, 2, 3}} {
		m, _ := recorded(t, plain(t), 2, keys...)
		none := func(bytes []byte, want api.Errno) {
			t.Helper()
			if p, e := m.Play(bytes); p != nil || e != want {
				t.Errorf("W7: Play = %v, %d, want %d", p != nil, e, want)
			}
		}
		none(nil, api.ErrCartLength)
		for e, bytes := range broken(t) {
			none(bytes, e)
		}
		for _, other := range [][]byte{rom(t, 3, 0, 3), rom(t, 0, 0, 0), rom(t, 6, 0, 0), rom(t, 9, 0, 2)} {
			none(other, api.ErrMovieState)
		}
	}
}

// From each place to each place, forth and back, and on from there.
func TestW7Seek(t *testing.T) {
	t.Parallel()
	for _, every := range []int{1, 2, 3, 5, 6} {
		m, f := recorded(t, plain(t), every, buttons(5)...)
		p, s := plays(t, m, f, plain(t))
		for from := range 6 {
			for to := range 6 {
				is(t, "W7: Seek", seeks(t, "W7", p, s, from), api.OK)
				is(t, "W7: Seek", seeks(t, "W7", p, s, to), api.OK)
				goesOn(t, "W7: behind Seek", p, s)
			}
		}
	}
}

// Places that are none: the player stays.
func TestW7SeekBeyond(t *testing.T) {
	t.Parallel()
	m, f := recorded(t, plain(t), 2, buttons(5)...)
	p, s := plays(t, m, f, plain(t))
	for at := range 6 {
		seeks(t, "W7", p, s, at)
		for _, place := range append(slices.Clone(far), 6, 7) {
			is(t, "W7: Seek to a place that is none", seeks(t, "W7", p, s, place), api.ErrMoviePlace)
		}
		goesOn(t, "W7: behind places that are none", p, s)
	}
}

// Another ROM: what it shows is told, with the error, and the player goes on; marks are where it is set right again.
func TestW7Parted(t *testing.T) {
	t.Parallel()
	told := map[api.Errno]int{}
	for _, every := range []int{1, 2, 4, 6} {
		for _, limit := range []int{1, 2, 4} {
			m, f := recorded(t, late(t, 200, seen, 85), every, buttons(5)...)
			p, s := plays(t, m, f, late(t, limit, seen, 85))
			for range 6 {
				told[goesOn(t, "W7: another ROM", p, s)]++
			}
			for _, place := range []int{3, 5, 2, 4, 0, 1} {
				is(t, "W7: Seek with another ROM", seeks(t, "W7", p, s, place), api.OK)
				told[goesOn(t, "W7: another ROM", p, s)]++
			}
		}
	}
	if told[api.OK] < 10 || told[api.ErrMovieParted] < 10 || told[api.ErrMovieEnd] < 10 {
		t.Errorf("W7: what was told is too little: %v", told)
	}
}

// To seek is to go from a mark, even where the player is near: with another ROM it is elsewhere.
func TestW7SeekMark(t *testing.T) {
	t.Parallel()
	m, f := recorded(t, late(t, 200, unseen, 85), 3, buttons(6)...)
	p, s := plays(t, m, f, late(t, 1, unseen, 85))
	for range 3 {
		goesOn(t, "W7", p, s)
	}
	apart := p.State()
	is(t, "W7: Seek to where it is", seeks(t, "W7", p, s, 3), api.OK)
	same(t, "W7: the state at a mark", p.State(), f.states[3])
	if slices.Equal(apart, p.State()) {
		t.Error("W7: a player of another ROM is not elsewhere")
	}
	is(t, "W7: Seek to the end", seeks(t, "W7", p, s, 6), api.OK)
	same(t, "W7: the state at the end", p.State(), f.states[6])
}

// A mark that is not taken: the player stays where it is, and goes on.
func TestW7SeekState(t *testing.T) {
	t.Parallel()
	five, one := rom(t, 0x1b, 0, 2, lowering), rom(t, 3, 0, 2, lowering)
	m, f := recorded(t, five, 2, buttons(5)...)
	p, s := plays(t, m, f, one)
	for at := range 6 {
		for place := range 6 {
			want := api.OK
			if place >= 2 {
				want = api.ErrMovieState
			}
			if place < 2 && at != place {
				continue
			}
			is(t, fmt.Sprintf("W7: at %d, Seek(%d)", at, place), seeks(t, "W7", p, s, place), want)
			is(t, "W7: At", p.At(), at)
		}
		is(t, "W7: a place that is none", seeks(t, "W7", p, s, 6), api.ErrMoviePlace)
		goesOn(t, "W7: behind a mark that is not taken", p, s)
	}
}

// A recorder from each place records as one that was never played, and leaves the player alone.
func TestW7Record(t *testing.T) {
	t.Parallel()
	keys := buttons(5)
	for _, every := range []int{1, 2, 3, 6} {
		m, f := recorded(t, plain(t), every, keys...)
		p, s := plays(t, m, f, plain(t))
		for at := range 6 {
			seeks(t, "W7", p, s, at)
			r, x := p.Record(), s.record(t)
			holds(t, "W7: Record, at first", r.Movie(), f.cut(0, at))
			records(t, r, x, 77, 255, 0)
			holds(t, "W7: Record", r.Movie(), x.now())
			straight, g := recorded(t, plain(t), every, append(slices.Clone(keys[:at]), 77, 255, 0)...)
			holds(t, "W7: recorded straight", r.Movie(), g)
			same(t, "W7: recorded straight", r.Movie().Bytes(), straight.Bytes())
			stands(t, "W7: behind Record", p, s)
			goesOn(t, "W7: behind Record", p, s)
		}
		holds(t, "W7: behind Record, the movie", m, f)
	}
}

// Several recorders of one player, and the player, go on apart.
func TestW7RecordApart(t *testing.T) {
	t.Parallel()
	m, f := recorded(t, plain(t), 2, buttons(6)...)
	p, s := plays(t, m, f, plain(t))
	seeks(t, "W7", p, s, 4)
	a, x := p.Record(), s.record(t)
	b, y := p.Record(), s.record(t)
	goesOn(t, "W7", p, s)
	for i := range 4 {
		records(t, a, x, 10*i)
		records(t, b, y, 20*i+1)
	}
	goesOn(t, "W7", p, s)
	c, z := p.Record(), s.record(t)
	records(t, c, z, 3)
	holds(t, "W7: one", a.Movie(), x.now())
	holds(t, "W7: another one", b.Movie(), y.now())
	holds(t, "W7: a later one", c.Movie(), z.now())
	holds(t, "W7: the movie", m, f)
}

// With another ROM the movie is that ROM's from then on; what was recorded stays, marks and all; and it goes on from where the player is.
func TestW7RecordOther(t *testing.T) {
	t.Parallel()
	mine, other := late(t, 200, seen, 85), withSum(late(t, 1, seen, 85), 4294967295)
	for _, every := range []int{1, 2, 3} {
		m, f := recorded(t, mine, every, buttons(4)...)
		p, s := plays(t, m, f, other)
		for at := range 5 {
			r, x := p.Record(), s.record(t)
			is(t, "W7: Info", r.Movie().Info(), api.MovieInfo{Frames: at, Every: every, Sum: 4294967295, Size: 32768})
			records(t, r, x, 1, 2, 3)
			holds(t, "W7: Record with another ROM", r.Movie(), x.now())
			for place := every; place <= at; place += every {
				same(t, "W7: an old mark", x.film.states[place], f.states[place])
			}
			checks(t, "what was recorded with two ROMs", r.Movie(), x.now(), mine)
			checks(t, "what was recorded with two ROMs", r.Movie(), x.now(), other)
			goesOn(t, "W7: another ROM", p, s)
		}
	}
	long := rom(t, 3, 1, 2, painter("$a000", 7))
	m, f := recorded(t, plain(t), 2, 1, 2, 3)
	p, s := plays(t, m, f, long)
	goesOn(t, "W7", p, s)
	r, x := p.Record(), s.record(t)
	records(t, r, x, 4, 5)
	is(t, "W7: the ROM's length", r.Movie().Info().Size, 65536)
	holds(t, "W7: Record with a longer ROM", r.Movie(), x.now())
}

// As many frames as may be: a recorder from the end has no room, one from the place ahead of it has some.
func TestW7RecordLong(t *testing.T) {
	t.Parallel()
	m, f := recorded(t, plain(t), 100, buttons(api.MaxMovie)...)
	p, s := plays(t, m, f, plain(t))
	seeks(t, "W7", p, s, api.MaxMovie)
	r := p.Record()
	x, e := r.Frame(1)
	is(t, "W7: Frame behind MaxMovie", e, api.ErrMovieLong)
	empty(t, "W7: Frame behind MaxMovie", x)
	holds(t, "W7: MaxMovie frames", r.Movie(), f)
	seeks(t, "W7", p, s, api.MaxMovie-1)
	r, y := p.Record(), s.record(t)
	records(t, r, y, 99)
	_, e = r.Frame(1)
	is(t, "W7: Frame behind MaxMovie", e, api.ErrMovieLong)
	holds(t, "W7: MaxMovie frames, of which the last is another one", r.Movie(), y.now())
}

// What a recorder does later changes no player of its movie.
func TestW7Told(t *testing.T) {
	t.Parallel()
	r, s := newRecorder(t, plain(t), nil, 2)
	records(t, r, s, 1, 2)
	f := s.now()
	p, x := plays(t, r.Movie(), f, plain(t))
	records(t, r, s, 3, 4)
	for range 2 {
		is(t, "W7: Next", goesOn(t, "W7", p, x), api.OK)
	}
	is(t, "W7: Next", goesOn(t, "W7", p, x), api.ErrMovieEnd)
	is(t, "W7: Seek", seeks(t, "W7", p, x, 3), api.ErrMoviePlace)
}

// Lists: the ROM is not written into, and not kept; pictures and states are new memory.
func TestW7Lists(t *testing.T) {
	t.Parallel()
	m, f := recorded(t, plain(t), 2, buttons(5)...)
	bytes := roomy(plain(t))
	p, e := m.Play(bytes)
	is(t, "W7: Play", e, api.OK)
	s, _ := showOf(t, f, plain(t))
	spared(t, "W7: Play", bytes, plain(t))
	scratch(bytes)
	for range 3 {
		x, _ := p.Next()
		scratch(x.Pixels)
		scratch(p.State())
		s.next()
		stands(t, "W7: behind lists are written over", p, s)
	}
	seeks(t, "W7: behind lists are written over", p, s, 1)
	goesOn(t, "W7: behind lists are written over", p, s)
	r, q := p.Record(), s.record(t)
	records(t, r, q, 8)
	holds(t, "W7: behind lists are written over", r.Movie(), q.now())
	holds(t, "W7: the movie", m, f)
}

// To ask changes nothing.
func TestW7Asked(t *testing.T) {
	t.Parallel()
	m, f := recorded(t, plain(t), 2, buttons(5)...)
	p, s := plays(t, m, f, plain(t))
	other, _ := m.Play(plain(t))
	for range 5 {
		other.At()
		other.State()
		other.Record().Frame(9)
		m.Check(plain(t))
		m.Bytes()
		m.Cut(2, 4)
		movie.Join(m, m)
		movie.Parts(m, m)
		other.Seek(-1)
		goesOn(t, "W7", p, s)
		x, e := other.Next()
		is(t, "W7: Next of one that was asked", e, api.OK)
		is(t, "W7: its sum", crc(x.Pixels), f.sums[s.at-1])
		same(t, "W7: its state", other.State(), p.State())
	}
}
