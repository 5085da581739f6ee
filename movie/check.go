package movie

import (
	"bytes"
	"cmp"
	"slices"
	"sync"

	"arcade/api"
	"arcade/console"
)

// How many pieces are shown at one time, at most: each has a console with a ROM of its own.
const sideBySide = 16

// piece is a part of a movie that is shown for itself.
type piece struct {
	from, to int
	state    []byte // that stands where it begins
}

// find is something that is wrong in a piece.
type find struct {
	from  int // where the piece begins
	at    int
	wrong api.Errno
}

// Check shows all of it, and tells the first number at which something is not as recorded, and what.
func (m *Movie) Check(rom []byte) (int, api.Errno) {
	if _, e := console.New(rom, nil); e != api.OK {
		return 0, e
	}
	finds := m.finds(rom)
	if len(finds) == 0 {
		return m.frames(), api.OK
	}
	first := slices.MinFunc(finds, inOrder)
	return first.at, first.wrong
}

// inOrder has the lower number first; of one number the end of a piece ahead of the piece that begins there.
func inOrder(a, b find) int {
	return cmp.Or(cmp.Compare(a.at, b.at), cmp.Compare(a.from, b.from))
}

// finds shows all pieces, by a goroutine each: what is wrong in them, in any order.
func (m *Movie) finds(rom []byte) []find {
	pieces := m.pieces()
	found := make(chan find, len(pieces))
	var all sync.WaitGroup
	for some := range slices.Chunk(pieces, sideBySide) {
		all.Add(len(some))
		for _, p := range some {
			go func() {
				defer all.Done()
				if at, e := m.show(p, rom); e != api.OK {
					found <- find{from: p.from, at: at, wrong: e}
				}
			}()
		}
		all.Wait()
	}
	close(found)
	var finds []find
	for f := range found {
		finds = append(finds, f)
	}
	return finds
}

// pieces are all of them: each begins with a state that has frames behind it; the first one in any case.
func (m *Movie) pieces() []piece {
	var pieces []piece
	end := m.frames()
	for at, state := range m.states() {
		if at == 0 || at < end {
			pieces = append(pieces, piece{from: at, to: min(at+m.every, end), state: state})
		}
	}
	return pieces
}

// show shows a piece: the number at which something is wrong first, and what.
func (m *Movie) show(p piece, rom []byte) (int, api.Errno) {
	c, e := consoleOf(rom, p.state)
	if e != api.OK {
		return p.from, e
	}
	for i := p.from; i < p.to; i++ {
		f, _ := c.Frame(int(m.buttons[i]))
		if sumOf(f.Pixels) != m.sums[i] {
			return i, api.ErrMovieParted
		}
	}
	if mark, stands := m.markAt(p.to); stands && !bytes.Equal(c.State(), mark) {
		return p.to, api.ErrMovieParted
	}
	return p.to, api.OK
}

// markAt is the mark at a place, if one stands there. The start is none.
func (m *Movie) markAt(place int) ([]byte, bool) {
	if place == 0 {
		return nil, false
	}
	return m.stateAt(place)
}
