package movie

import (
	"bytes"

	"arcade/api"
	"arcade/pack"
)

// A movie's bytes are: a mark and a version; how many bytes the ROM has, and its sum; EVERY; how many frames there are, and of each its buttons and its sum; the start and the marks, packed, each behind how many bytes it has then; the sum of all that. From the front on they say how many they are: so those of one movie are never the beginning of another one's.
const (
	movieMark = 77
	version   = 1
)

// How many bytes each thing has there.
const (
	headWidth    = 2
	sizeWidth    = 4
	sumWidth     = 4
	countWidth   = 2
	buttonsWidth = 1
	lengthWidth  = 4
)

// Bytes tells a movie as bytes.
func (m *Movie) Bytes() []byte {
	data := []byte{movieMark, version}
	data = withNumber(data, m.size, sizeWidth)
	data = withNumber(data, m.romSum, sumWidth)
	data = withNumber(data, m.every, countWidth)
	data = withNumber(data, m.frames(), countWidth)
	for i, buttons := range m.buttons {
		data = withNumber(data, int(buttons), buttonsWidth)
		data = withNumber(data, m.sums[i], sumWidth)
	}
	for _, state := range m.states() {
		packed, _ := pack.Pack(state) // no console's state is too long
		data = withNumber(data, len(packed), lengthWidth)
		data = append(data, packed...)
	}
	return withNumber(data, sumOf(data), sumWidth)
}

// Read makes a movie of bytes.
func Read(data []byte) (*Movie, api.Errno) {
	if !isSummed(data) {
		return nil, api.ErrMovieForm
	}
	m := movieIn(data)
	// What Bytes would tell otherwise, such as a state that is packed in another way, is no movie's.
	if m == nil || !bytes.Equal(m.Bytes(), data) {
		return nil, api.ErrMovieForm
	}
	return m, api.OK
}

// isSummed tells whether bytes end with the sum of those ahead of it.
func isSummed(data []byte) bool {
	end := len(data) - sumWidth
	return end >= 0 && numberOf(data[end:]) == sumOf(data[:end])
}

// movieIn is the movie that bytes tell from the front on; nil, if they tell none. What they begin and end with is not looked at.
func movieIn(data []byte) *Movie {
	r := &reader{rest: data}
	r.take(headWidth)
	m := &Movie{size: r.number(sizeWidth), romSum: r.number(sumWidth), every: r.number(countWidth)}
	frames := r.number(countWidth)
	if m.every < 1 || m.every > api.MaxEvery || frames > api.MaxMovie {
		return nil
	}
	for range frames {
		m.buttons = append(m.buttons, byte(r.number(buttonsWidth)))
		m.sums = append(m.sums, r.number(sumWidth))
	}
	m.start = r.state()
	for range frames / m.every {
		m.marks = append(m.marks, r.state())
	}
	if r.lacks {
		return nil
	}
	return m
}
