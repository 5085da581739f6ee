package movie_test

import (
	"fmt"
	"math/rand"
	"slices"
	"sync"
	"testing"

	"arcade/api"
	"arcade/movie"
)

// studio is recorders, movies and players side by side, each with what it should be.
type studio struct {
	draw      *rand.Rand
	roms      [][]byte
	recorders []*movie.Recorder
	shots     []*shot
	movies    []*movie.Movie
	films     []film
	players   []*movie.Player
	shows     []*show
}

// The most of each kind that are kept: a later one takes the place of one by lot.
const atMost = 6

// keep puts a pair into two lists.
func keep[A, B any](draw *rand.Rand, as []A, bs []B, a A, b B) ([]A, []B) {
	if len(as) < atMost {
		return append(as, a), append(bs, b)
	}
	i := draw.Intn(atMost)
	as[i], bs[i] = a, b
	return as, bs
}

func (s *studio) rom() []byte {
	return s.roms[s.draw.Intn(len(s.roms))]
}

func (s *studio) addMovie(t *testing.T, what string, m *movie.Movie, f film) {
	t.Helper()
	holds(t, what, m, f)
	s.movies, s.films = keep(s.draw, s.movies, s.films, m, f)
}

func (s *studio) newRecorder(t *testing.T) {
	every, rom := 1+s.draw.Intn(3), s.rom()
	r, x := newRecorder(t, rom, nil, every)
	s.recorders, s.shots = keep(s.draw, s.recorders, s.shots, r, x)
}

func (s *studio) frames(t *testing.T) {
	i := s.draw.Intn(len(s.recorders))
	for range s.draw.Intn(3) {
		records(t, s.recorders[i], s.shots[i], s.draw.Intn(2)*s.draw.Intn(256))
	}
}

func (s *studio) movie(t *testing.T) {
	i := s.draw.Intn(len(s.recorders))
	s.addMovie(t, "R4: Movie", s.recorders[i].Movie(), s.shots[i].now())
}

func (s *studio) cut(t *testing.T) {
	i := s.draw.Intn(len(s.movies))
	n := s.films[i].frames()
	from, to := s.draw.Intn(n+2), s.draw.Intn(n+2)
	if m := cuts(t, s.movies[i], s.films[i], from, to); m != nil {
		s.addMovie(t, "R4: Cut", m, s.films[i].cut(from, to))
	}
}

func (s *studio) join(t *testing.T) {
	i, k := s.draw.Intn(len(s.movies)), s.draw.Intn(len(s.movies))
	if joins(t, s.movies[i], s.movies[k], s.films[i], s.films[k]) != api.OK {
		return
	}
	m, _ := movie.Join(s.movies[i], s.movies[k])
	f, _ := joined(s.films[i], s.films[k])
	if f.frames() < 20 {
		s.addMovie(t, "R4: Join", m, f)
	}
}

func (s *studio) read(t *testing.T) {
	i := s.draw.Intn(len(s.movies))
	s.addMovie(t, "R4: Read", read(t, "R4", s.movies[i].Bytes()), s.films[i])
}

func (s *studio) parts(t *testing.T) {
	i, k := s.draw.Intn(len(s.movies)), s.draw.Intn(len(s.movies))
	n, e := movie.Parts(s.movies[i], s.movies[k])
	is(t, "R4: Parts", n, parts(s.films[i], s.films[k]))
	is(t, "R4: Parts", e, api.OK)
}

func (s *studio) check(t *testing.T) {
	i := s.draw.Intn(len(s.movies))
	checks(t, "R4", s.movies[i], s.films[i], s.rom())
}

func (s *studio) play(t *testing.T) {
	i, rom := s.draw.Intn(len(s.movies)), s.rom()
	p, e := s.movies[i].Play(rom)
	x, f := showOf(t, s.films[i], rom)
	is(t, "R4: Play", e, f)
	if f == api.OK {
		s.players, s.shows = keep(s.draw, s.players, s.shows, p, x)
	}
}

func (s *studio) show(t *testing.T) {
	if len(s.players) == 0 {
		return
	}
	i := s.draw.Intn(len(s.players))
	p, x := s.players[i], s.shows[i]
	switch s.draw.Intn(3) {
	case 0:
		goesOn(t, "R4", p, x)
	case 1:
		seeks(t, "R4", p, x, s.draw.Intn(x.film.frames()+3)-1)
	default:
		s.recorders, s.shots = keep(s.draw, s.recorders, s.shots, p.Record(), x.record(t))
	}
}

// Whatever is done to some of them, all of them do as they should: those of one ROM, of others that go another way, and of one that takes no state of theirs.
func TestW7Studio(t *testing.T) {
	t.Parallel()
	for seed := range int64(6) {
		s := &studio{draw: rand.New(rand.NewSource(seed))}
		s.roms = [][]byte{late(t, 2, seen, 85), late(t, 4, seen, 85), late(t, 3, unseen, 85), rom(t, 3, 0, 2, painter("$a000", 7)), rom(t, 0, 0, 0, painter("$c000", 7))}
		s.newRecorder(t)
		s.movie(t)
		acts := []func(*studio, *testing.T){(*studio).newRecorder, (*studio).frames, (*studio).frames, (*studio).frames, (*studio).movie, (*studio).movie, (*studio).cut, (*studio).join, (*studio).join, (*studio).read, (*studio).parts, (*studio).check, (*studio).play, (*studio).show, (*studio).show, (*studio).show}
		for range 150 {
			acts[s.draw.Intn(len(acts))](s, t)
		}
		for i, m := range s.movies {
			holds(t, "R4: in the end", m, s.films[i])
		}
		for i, r := range s.recorders {
			holds(t, "R4: in the end", r.Movie(), s.shots[i].now())
		}
		for i, p := range s.players {
			stands(t, "R4: in the end", p, s.shows[i])
		}
	}
}

// run is all that calls tell of one recorder, its movie and players, as one list.
func run(seed int64, rom []byte) []string {
	draw := rand.New(rand.NewSource(seed))
	r, _ := movie.New(rom, nil, 1+draw.Intn(3))
	var list []string
	for range 5 {
		f, e := r.Frame(draw.Intn(256))
		list = append(list, fmt.Sprint(crc(f.Pixels), f.Clocks, e))
	}
	m := r.Movie()
	n, e := m.Check(rom)
	p, _ := m.Play(rom)
	for range 4 {
		p.Seek(draw.Intn(6))
		f, e := p.Next()
		list = append(list, fmt.Sprint(crc(f.Pixels), e, crc(p.State())))
	}
	on := p.Record()
	on.Frame(1)
	return append(list, fmt.Sprint(m.Info(), m.Sums(), n, e, crc(m.Bytes()), crc(on.Movie().Bytes())))
}

// What one tells hangs on nothing that goes on beside it.
func TestW1Beside(t *testing.T) {
	t.Parallel()
	roms := [][]byte{plain(t), late(t, 2, seen, 85), rom(t, 0, 0, 0, painter("$c000", 3))}
	var want, got [9][]string
	for i := range want {
		want[i] = run(int64(i), roms[i%3])
	}
	var all sync.WaitGroup
	for i := range got {
		all.Go(func() { got[i] = run(int64(i), roms[i%3]) })
	}
	all.Wait()
	for i := range want {
		if !slices.Equal(want[i], got[i]) {
			t.Errorf("R4: what the %d-th tells hangs on others", i)
		}
	}
}

// One movie may be asked, cut and played by many at the same time.
func TestW7OneMovie(t *testing.T) {
	t.Parallel()
	bytes := plain(t)
	m, f := recorded(t, bytes, 2, buttons(6)...)
	want := f.bytes(t)
	var wrong [8]bool
	var all sync.WaitGroup
	for i := range wrong {
		all.Go(func() {
			p, _ := m.Play(bytes)
			p.Seek(i % 7)
			r := p.Record()
			r.Frame(i)
			a, _ := m.Cut(0, 4)
			b, _ := m.Cut(4, 6)
			j, _ := movie.Join(a, b)
			n, e := m.Check(bytes)
			at, _ := movie.Parts(j, m)
			wrong[i] = !slices.Equal(j.Bytes(), want) || n != 6 || e != api.OK || at != 6 || !slices.Equal(m.Bytes(), want)
		})
	}
	all.Wait()
	is(t, "R4: one movie beside others", wrong, [8]bool{})
	holds(t, "R4: behind all", m, f)
}

// Movies that no call gave are refused, or joined to one that has nothing; no call panics.
func TestW4Empty(t *testing.T) {
	t.Parallel()
	m, _ := recorded(t, plain(t), 1, 1)
	for _, x := range [][2]*movie.Movie{{{}, m}, {m, {}}} {
		j, e := movie.Join(x[0], x[1])
		if j != nil || e != api.ErrMovieRom {
			t.Errorf("R1: Join with a movie that no call gave = %v, %d", j != nil, e)
		}
		n, e := movie.Parts(x[0], x[1])
		is(t, "R1: Parts", n, 0)
		is(t, "R1: Parts", e, api.OK)
	}
	movie.Join(&movie.Movie{}, &movie.Movie{})
}
