package movie

import (
	"bytes"

	"arcade/api"
)

// Cut is the part from one frame to another.
func (m *Movie) Cut(from int, to int) (*Movie, api.Errno) {
	if from < 0 || to < from || to > m.frames() {
		return nil, api.ErrMoviePlace
	}
	if _, stands := m.stateAt(from); !stands {
		return nil, api.ErrMoviePlace
	}
	return m.part(from, to), api.OK
}

// Join is two, one behind the other.
func Join(a *Movie, b *Movie) (*Movie, api.Errno) {
	if a == nil || b == nil {
		return nil, api.ErrArg
	}
	if a.size != b.size || a.romSum != b.romSum {
		return nil, api.ErrMovieRom
	}
	if a.every != b.every || !a.endsAt(b.start) {
		return nil, api.ErrMoviePlace
	}
	if a.frames()+b.frames() > api.MaxMovie {
		return nil, api.ErrMovieLong
	}
	joined := a.part(0, a.frames())
	joined.buttons = append(joined.buttons, b.buttons...)
	joined.sums = append(joined.sums, b.sums...)
	joined.marks = append(joined.marks, b.marks...)
	return joined, api.OK
}

// endsAt tells whether this state stands at the movie's end.
func (m *Movie) endsAt(state []byte) bool {
	end, stands := m.stateAt(m.frames())
	return stands && bytes.Equal(end, state)
}

// Parts tells the first frame at which two part.
func Parts(a *Movie, b *Movie) (int, api.Errno) {
	if a == nil || b == nil {
		return 0, api.ErrArg
	}
	shorter := min(a.frames(), b.frames())
	for i := range shorter {
		if a.buttons[i] != b.buttons[i] || a.sums[i] != b.sums[i] {
			return i, api.OK
		}
	}
	return shorter, api.OK
}
