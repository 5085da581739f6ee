package movie_test

import (
	"fmt"
	"slices"
	"testing"

	"arcade/api"
	"arcade/movie"
)

// W8: what was recorded is shown again, from the beginning and from any place, and nothing is wrong with it.
func TestW8Shown(t *testing.T) {
	t.Parallel()
	const many = 6
	for _, c := range cartridges(t) {
		for _, every := range []int{1, 4, many, api.MaxEvery} {
			r, e := movie.New(c.rom, c.save, every)
			is(t, "W1: New", e, api.OK)
			var shown []api.Frame
			for _, k := range buttons(many) {
				f, _ := r.Frame(k)
				shown = append(shown, f)
			}
			m := r.Movie()
			n, e := m.Check(c.rom)
			is(t, "W8: Check of "+c.name, n, many)
			is(t, "W8: Check of "+c.name, e, api.OK)
			p, e := m.Play(c.rom)
			is(t, "W7: Play", e, api.OK)
			for _, from := range []int{0, 3, 5, 1, 6, 2, 4} {
				is(t, "W8: Seek", p.Seek(from), api.OK)
				for i := from; i < many; i++ {
					f, e := p.Next()
					is(t, "W8: Next", e, api.OK)
					alike(t, fmt.Sprintf("W8: %s, EVERY %d, from %d on, frame %d", c.name, every, from, i), f, shown[i])
				}
			}
		}
	}
}

// W8: two that are recorded alike, with other buttons from some frame on, do not part ahead of it.
func TestW8Parts(t *testing.T) {
	t.Parallel()
	keys := buttons(7)
	for _, bytes := range [][]byte{plain(t), late(t, 3, seen, 85)} {
		m, _ := recorded(t, bytes, 2, keys...)
		for i := range keys {
			other := slices.Clone(keys)
			for k := i; k < len(other); k++ {
				other[k] = (other[k]*3 + 1) % 256
			}
			for _, every := range []int{2, 3} {
				o, _ := recorded(t, bytes, every, other...)
				n, e := movie.Parts(m, o)
				is(t, "W8: Parts", e, api.OK)
				if n < i {
					t.Errorf("W8: they part at %d, and buttons are others from %d on", n, i)
				}
			}
		}
	}
}

// W9: what is cut and joined again is as it was, at each place where it may be.
func TestW9Joined(t *testing.T) {
	t.Parallel()
	for _, c := range cartridges(t) {
		for _, every := range []int{1, 2, 3, 6, 7} {
			r, s := newRecorder(t, c.rom, c.save, every)
			records(t, r, s, buttons(6)...)
			m := r.Movie()
			want := m.Bytes()
			for k := 0; k <= 6; k += every {
				a, e := m.Cut(0, k)
				b, f := m.Cut(k, 6)
				is(t, "W9: Cut, the first", e, api.OK)
				is(t, "W9: Cut, the second", f, api.OK)
				j, e := movie.Join(a, b)
				is(t, "W9: Join", e, api.OK)
				same(t, fmt.Sprintf("W9: %s, EVERY %d, cut at %d", c.name, every, k), j.Bytes(), want)
			}
		}
	}
}

// W9: cut into pieces at all marks, and joined from the front, and from the back.
func TestW9Pieces(t *testing.T) {
	t.Parallel()
	m, f := recorded(t, plain(t), 2, buttons(9)...)
	var pieces []*movie.Movie
	for k := 0; k < 9; k += 2 {
		pieces = append(pieces, cuts(t, m, f, k, min(k+2, 9)))
	}
	front := pieces[0]
	for _, p := range pieces[1:] {
		front, _ = movie.Join(front, p)
	}
	back := pieces[len(pieces)-1]
	for _, p := range slices.Backward(pieces[:len(pieces)-1]) {
		back, _ = movie.Join(p, back)
	}
	holds(t, "W9: from the front", front, f)
	holds(t, "W9: from the back", back, f)
}
