package movie_test

import (
	"bytes"
	"encoding/binary"
	"fmt"
	"math"
	"slices"
	"testing"

	"arcade/api"
	"arcade/movie"
)

// cuts holds a part, or that there is none.
func cuts(t *testing.T, m *movie.Movie, f film, from, to int) *movie.Movie {
	t.Helper()
	cut, e := m.Cut(from, to)
	if !f.mayCut(from, to) {
		if cut != nil || e != api.ErrMoviePlace {
			t.Errorf("W4: EVERY %d, Cut(%d, %d) of %d frames = %v, %d", f.every, from, to, f.frames(), cut != nil, e)
		}
		return nil
	}
	is(t, "W4: Cut", e, api.OK)
	holds(t, fmt.Sprintf("W4: EVERY %d, Cut(%d, %d)", f.every, from, to), cut, f.cut(from, to))
	return cut
}

// All parts, and places that are none.
func TestW4Cut(t *testing.T) {
	t.Parallel()
	for _, every := range []int{1, 2, 3, 6, 7, api.MaxEvery} {
		m, f := recorded(t, plain(t), every, buttons(6)...)
		for from := -2; from <= 8; from++ {
			for to := -2; to <= 8; to++ {
				cuts(t, m, f, from, to)
			}
			for _, to := range far {
				cuts(t, m, f, from, to)
				cuts(t, m, f, to, from)
				cuts(t, m, f, to, to)
			}
		}
		holds(t, "W4: behind Cut", m, f)
	}
	m, f := recorded(t, plain(t), 2)
	cuts(t, m, f, 0, 0)
	cuts(t, m, f, 0, 1)
	cuts(t, m, f, 0, math.MaxInt)
	cuts(t, m, f, -2, 0)
}

// Parts of parts; they show what was recorded, and may be recorded on.
func TestW4CutAgain(t *testing.T) {
	t.Parallel()
	for _, c := range cartridges(t) {
		r, s := newRecorder(t, c.rom, c.save, 2)
		records(t, r, s, buttons(8)...)
		m, f := r.Movie(), s.now()
		cut := cuts(t, m, f, 2, 7)
		again := cuts(t, cut, f.cut(2, 7), 2, 5)
		holds(t, "W4: a part of a part", again, f.cut(4, 7))
		n, e := again.Check(c.rom)
		is(t, "W4: Check of a part of "+c.name, n, 3)
		is(t, "W4: Check of a part of "+c.name, e, api.OK)
		p, x := plays(t, again, f.cut(4, 7), c.rom)
		for range 4 {
			goesOn(t, "W4: a part of "+c.name, p, x)
		}
		on, y := p.Record(), x.record(t)
		records(t, on, y, 9, 8)
		holds(t, "W4: a part that is recorded on", on.Movie(), y.now())
		holds(t, "W4: behind that", m, f)
	}
}

// joins holds two that are put together, or why they are not.
func joins(t *testing.T, a, b *movie.Movie, f, g film) api.Errno {
	t.Helper()
	m, e := movie.Join(a, b)
	want, why := joined(f, g)
	is(t, "W4: Join", e, why)
	if why == api.OK {
		holds(t, "W4: Join", m, want)
	} else if m != nil {
		t.Error("W4: Join gives a movie with an error")
	}
	return e
}

// Each part with each part, of one movie.
func TestW4Join(t *testing.T) {
	t.Parallel()
	for _, every := range []int{1, 2, 3} {
		m, f := recorded(t, plain(t), every, buttons(4)...)
		var movies []*movie.Movie
		var films []film
		for from := 0; from <= 4; from += every {
			for to := from; to <= 4; to++ {
				movies, films = append(movies, cuts(t, m, f, from, to)), append(films, f.cut(from, to))
			}
		}
		good := 0
		for i := range movies {
			for k := range movies {
				if joins(t, movies[i], movies[k], films[i], films[k]) == api.OK {
					good++
				}
			}
		}
		if good < 5 {
			t.Errorf("W4: only %d of the parts are joined", good)
		}
		for i, m := range movies {
			holds(t, "W4: behind Join", m, films[i])
		}
	}
}

// What is joined is no more than what it was joined of: it may be recorded on, apart from them.
func TestW4JoinApart(t *testing.T) {
	t.Parallel()
	bytes := plain(t)
	m, f := recorded(t, bytes, 2, buttons(6)...)
	a, b := cuts(t, m, f, 0, 2), cuts(t, m, f, 2, 6)
	j, e := movie.Join(a, b)
	is(t, "W4: Join", e, api.OK)
	for _, x := range []*movie.Movie{a, j, m} {
		g := f.cut(0, x.Info().Frames)
		p, s := plays(t, x, g, bytes)
		seeks(t, "W4: joined", p, s, g.frames())
		r, q := p.Record(), s.record(t)
		records(t, r, q, 3, 3, 3)
		holds(t, "W4: one that is recorded on", r.Movie(), q.now())
	}
	holds(t, "W4: the first", a, f.cut(0, 2))
	holds(t, "W4: the second", b, f.cut(2, 6))
	holds(t, "W4: both", j, f)
}

// Errors of Join, one by one, and two at once of which the first is told.
func TestW4JoinErrors(t *testing.T) {
	t.Parallel()
	one, other, long := plain(t), rom(t, 3, 0, 2, painter("$a000", 8)), rom(t, 3, 1, 2, painter("$a000", 7))
	a, f := recorded(t, one, 2, 1, 2)
	end, fEnd := cuts(t, a, f, 2, 2), f.cut(2, 2)
	odd, fOdd := recorded(t, one, 2, 1, 2, 3)
	wide, fWide := recorded(t, one, 3)
	start, fStart := recorded(t, one, 2)
	alien, fAlien := recorded(t, other, 2)
	oddAlien, fOddAlien := recorded(t, other, 3, 5)
	longer, fLonger := recorded(t, long, 2)
	for _, x := range []struct {
		what string
		a, b *movie.Movie
		f, g film
		want api.Errno
	}{
		{"good", a, end, f, fEnd, api.OK},
		{"good, without frames ahead", start, a, fStart, f, api.OK},
		{"good, without frames", start, start, fStart, fStart, api.OK},
		{"another sum of the ROM", alien, start, fAlien, fStart, api.ErrMovieRom},
		{"another length of the ROM", start, longer, fStart, fLonger, api.ErrMovieRom},
		{"another EVERY", start, wide, fStart, fWide, api.ErrMoviePlace},
		{"frames that are no multiple", odd, end, fOdd, fEnd, api.ErrMoviePlace},
		{"another state", a, start, f, fStart, api.ErrMoviePlace},
		{"another state, without frames", start, end, fStart, fEnd, api.ErrMoviePlace},
		{"another ROM and another EVERY", oddAlien, start, fOddAlien, fStart, api.ErrMovieRom},
		{"another ROM and no multiple", odd, alien, fOdd, fAlien, api.ErrMovieRom},
		{"another ROM and another state", a, alien, f, fAlien, api.ErrMovieRom},
	} {
		if e := joins(t, x.a, x.b, x.f, x.g); e != x.want {
			t.Errorf("W4: Join, %s: %d, want %d", x.what, e, x.want)
		}
	}
	for _, x := range [][2]*movie.Movie{{nil, nil}, {a, nil}, {nil, a}, {nil, alien}, {odd, nil}} {
		if m, e := movie.Join(x[0], x[1]); m != nil || e != api.ErrArg {
			t.Errorf("W4: Join with nil = %v, %d", m != nil, e)
		}
	}
}

// MaxMovie frames may be joined, and not one more; other errors are ahead of that.
func TestW4JoinLong(t *testing.T) {
	t.Parallel()
	bytes := plain(t)
	m, f := recorded(t, bytes, 100, buttons(api.MaxMovie)...)
	last, g := cuts(t, m, f, 300, 300), f.cut(300, 300)
	is(t, "W4: MaxMovie frames, and none", joins(t, m, last, f, g), api.OK)
	first, h := cuts(t, m, f, 0, 100), f.cut(0, 100)
	is(t, "W4: 100 frames, and 200", joins(t, first, cuts(t, m, f, 100, 300), h, f.cut(100, 300)), api.OK)
	is(t, "W4: too many, with another state", joins(t, m, first, f, h), api.ErrMoviePlace)

	p, s := plays(t, last, g, bytes)
	r, q := p.Record(), s.record(t)
	records(t, r, q, 1)
	is(t, "W4: MaxMovie frames, and one", joins(t, m, r.Movie(), f, q.now()), api.ErrMovieLong)

	p, s = plays(t, cuts(t, m, f, 200, 200), f.cut(200, 200), bytes)
	r, q = p.Record(), s.record(t)
	records(t, r, q, buttons(100)...)
	two, i := cuts(t, m, f, 0, 200), f.cut(0, 200)
	is(t, "W4: 200 frames, and 100", joins(t, two, r.Movie(), i, q.now()), api.OK)
	records(t, r, q, 7)
	is(t, "W4: 200 frames, and 101", joins(t, two, r.Movie(), i, q.now()), api.ErrMovieLong)
	records(t, r, q, buttons(99)...)
	is(t, "W4: 200 frames, and 200", joins(t, two, r.Movie(), i, q.now()), api.ErrMovieLong)

	other := rom(t, 3, 0, 2, painter("$a000", 8))
	x, y := recorded(t, other, 100, 1)
	is(t, "W4: too many, of another ROM", joins(t, m, x, f, y), api.ErrMovieRom)
}

// withSum is a ROM whose last four bytes are such that it has this check sum.
func withSum(list []byte, sum int) []byte {
	made := slices.Clone(list)
	ends := uint32(sum) ^ math.MaxUint32
	for range 32 { // back by four bytes 0
		if ends>>31 == 1 {
			ends = (ends^0xedb88320)<<1 | 1
		} else {
			ends <<= 1
		}
	}
	ahead := made[:len(made)-4]
	binary.LittleEndian.PutUint32(made[len(ahead):], ends^uint32(crc(ahead))^math.MaxUint32)
	return made
}

// Two ROMs of one check sum, but of two lengths, are not the same; two of one length are not told apart.
func TestW4JoinSums(t *testing.T) {
	t.Parallel()
	one := plain(t)
	long := withSum(rom(t, 3, 1, 2, painter("$a000", 7)), crc(one))
	like := withSum(rom(t, 3, 0, 2, painter("$a000", 8)), crc(one))
	is(t, "the check sum of a longer ROM", crc(long), crc(one))
	is(t, "the check sum of a ROM that is alike", crc(like), crc(one))
	if bytes.Equal(like, one) {
		t.Error("two ROMs are the same")
	}
	a, f := recorded(t, one, 1, 4)
	b, g := recorded(t, long, 1)
	is(t, "W4: Join with a longer ROM", joins(t, b, a, g, f), api.ErrMovieRom)
	is(t, "W4: Join with a shorter ROM", joins(t, a, b, f, g), api.ErrMovieRom)
	c, h := recorded(t, like, 1)
	is(t, "W4: Join with a ROM of the same length and sum", joins(t, c, a, h, f), api.OK)
}

// partsAt holds where two part, both ways round.
func partsAt(t *testing.T, what string, a, b *movie.Movie, f, g film, want int) {
	t.Helper()
	is(t, what+", by the model", parts(f, g), want)
	for _, x := range [][2]*movie.Movie{{a, b}, {b, a}} {
		n, e := movie.Parts(x[0], x[1])
		is(t, what, n, want)
		is(t, what, e, api.OK)
	}
	holds(t, what+": behind it", a, f)
}

// Where buttons are not the same, where sums are not, and where nothing is.
func TestW5Parts(t *testing.T) {
	t.Parallel()
	keys := buttons(5)
	m, f := recorded(t, plain(t), 2, keys...)
	for i := range keys {
		other := slices.Clone(keys)
		other[i] ^= 1
		a, g := recorded(t, plain(t), 3, other...)
		partsAt(t, "W5: other buttons", m, a, f, g, i)
		a, g = recorded(t, plain(t), 2, keys[:i]...)
		partsAt(t, "W5: a shorter one", m, a, f, g, i)
	}
	partsAt(t, "W5: itself", m, m, f, f, 5)
	a, g := recorded(t, rom(t, 3, 0, 2, painter("$a000", 8)), 2, keys...)
	partsAt(t, "W5: other pictures", m, a, f, g, 0)
	none, h := recorded(t, plain(t), 1)
	partsAt(t, "W5: none", m, none, f, h, 0)
	partsAt(t, "W5: none and none", none, none, h, h, 0)
}

// Sums alone may part, at each frame; buttons alone, too: where they show nothing.
func TestW5Alone(t *testing.T) {
	t.Parallel()
	keys := []int{0, 0, 0, 0, 0, 0}
	m, f := recorded(t, late(t, 200, seen, 85), 2, keys...)
	seenAt := map[int]bool{}
	for limit := 1; limit <= 5; limit++ {
		a, g := recorded(t, late(t, limit, seen, 85), 2, keys...)
		at := parts(f, g)
		seenAt[at] = true
		partsAt(t, "W5: sums alone", m, a, f, g, at)
	}
	if len(seenAt) != 5 {
		t.Errorf("W5: pictures part at %v alone", seenAt)
	}
	for i := range keys {
		other := slices.Clone(keys)
		other[i] = 200
		a, g := recorded(t, late(t, 200, seen, 85), 2, other...)
		same(t, "W5: the sums", g.sums, f.sums)
		partsAt(t, "W5: buttons alone", m, a, f, g, i)
	}
	b, g := recorded(t, late(t, 200, unseen, 85), 6, keys...)
	partsAt(t, "W5: another ROM that shows the same", m, b, f, g, 6)
}

func TestW5Nil(t *testing.T) {
	t.Parallel()
	m, _ := recorded(t, plain(t), 2, 1)
	for _, x := range [][2]*movie.Movie{{nil, nil}, {m, nil}, {nil, m}} {
		if n, e := movie.Parts(x[0], x[1]); n != 0 || e != api.ErrArg {
			t.Errorf("W5: Parts with nil = %d, %d", n, e)
		}
	}
}
