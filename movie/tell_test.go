package movie_test

import (
	"math/rand"
	"slices"
	"testing"

	"arcade/api"
	"arcade/movie"
)

// The check sum's examples, and any bytes.
func TestW2CheckSum(t *testing.T) {
	t.Parallel()
	is(t, "the sum of none", movie.SumOf(nil), 0)
	is(t, "the sum of four bytes 0", movie.SumOf(make([]byte, 4)), 0x2144df1c)
	is(t, "the sum of abc", movie.SumOf([]byte("abc")), 891568578)
	draw := rand.New(rand.NewSource(1))
	for b := range 256 {
		is(t, "the sum of a byte", movie.SumOf([]byte{byte(b)}), crc([]byte{byte(b)}))
		data := make([]byte, draw.Intn(3000))
		draw.Read(data)
		is(t, "the sum of bytes by lot", movie.SumOf(data), crc(data))
	}
}

// The example of the document.
func TestW2Example(t *testing.T) {
	t.Parallel()
	m, f := recorded(t, plain(t), 2, 5, 0, 9)
	is(t, "Info", m.Info(), api.MovieInfo{Frames: 3, Every: 2, Sum: crc(plain(t)), Size: 32768})
	is(t, "marks", len(f.states)-1, 1)
	holds(t, "W2: the example", m, f)
	cut, e := m.Cut(2, 3)
	is(t, "Cut(2, 3)", e, api.OK)
	holds(t, "Cut(2, 3)", cut, f.cut(2, 3))
	is(t, "marks that are left", len(f.cut(2, 3).states)-1, 0)
	_, e = m.Cut(1, 3)
	is(t, "Cut(1, 3)", e, api.ErrMoviePlace)
	p, _ := m.Play(plain(t))
	is(t, "Seek(3)", p.Seek(3), api.OK)
	_, e = p.Next()
	is(t, "Next", e, api.ErrMovieEnd)
	for _, other := range []*movie.Movie{m, cut} {
		_, e = movie.Join(m, other)
		is(t, "Join of three frames, EVERY 2", e, api.ErrMoviePlace)
	}
}

// Info tells of ROMs of all lengths.
func TestW2Info(t *testing.T) {
	t.Parallel()
	for code := range byte(7) {
		bytes := rom(t, 1, code, 0, painter("$c000", int(code)))
		bytes[len(bytes)-1] = 200 - code // the sum is one of all bytes
		m, _ := recorded(t, bytes, 3, 1, 2)
		is(t, "W2: Info", m.Info(), api.MovieInfo{Frames: 2, Every: 3, Sum: crc(bytes), Size: 32768 << code})
	}
}

// A movie without frames has neither buttons nor sums.
func TestW2None(t *testing.T) {
	t.Parallel()
	m, f := recorded(t, plain(t), 1)
	is(t, "W2: Buttons", len(m.Buttons()), 0)
	is(t, "W2: Sums", len(m.Sums()), 0)
	holds(t, "W2: no frames", m, f)
}

// Lists that come out are new memory.
func TestW2Lists(t *testing.T) {
	t.Parallel()
	m, f := recorded(t, plain(t), 2, buttons(7)...)
	a, b := m.Buttons(), m.Buttons()
	x, y := m.Sums(), m.Sums()
	scratch(a)
	for i := range x[:cap(x)] {
		x[:cap(x)][i] = -1
	}
	same(t, "W2: Buttons, when others are written over", b, f.keys)
	same(t, "W2: Sums, when others are written over", y, f.sums)
	told := m.Bytes()
	want := slices.Clone(told)
	again := m.Bytes()
	scratch(told)
	same(t, "W3: Bytes, when others are written over", again, want)
	holds(t, "W2: behind all lists are written over", m, f)
}
