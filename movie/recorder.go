package movie

import (
	"arcade/api"
	"arcade/console"
)

const maxButtons = 255

// Recorder is a console whose run is recorded.
type Recorder struct {
	console *console.Console
	movie   *Movie // what is recorded up to now; it is given to nobody but in copies
}

// New makes a recorder, which keeps a state every so many frames.
func New(rom []byte, save []byte, every int) (*Recorder, api.Errno) {
	if every < 1 || every > api.MaxEvery {
		return nil, api.ErrArg
	}
	c, e := console.New(rom, save)
	if e != api.OK {
		return nil, e
	}
	m := &Movie{size: len(rom), romSum: sumOf(rom), every: every, start: c.State()}
	return &Recorder{console: c, movie: m}, api.OK
}

// Frame lets one frame go by, and records it.
func (r *Recorder) Frame(buttons int) (api.Frame, api.Errno) {
	if buttons < 0 || buttons > maxButtons {
		return api.Frame{}, api.ErrArg
	}
	m := r.movie
	if m.frames() >= api.MaxMovie {
		return api.Frame{}, api.ErrMovieLong
	}
	f, _ := r.console.Frame(buttons) // it refuses no buttons that may be
	m.buttons = append(m.buttons, byte(buttons))
	m.sums = append(m.sums, sumOf(f.Pixels))
	if m.frames()%m.every == 0 {
		m.marks = append(m.marks, r.console.State())
	}
	return f, api.OK
}

// Movie tells what was recorded up to now.
func (r *Recorder) Movie() *Movie {
	return r.movie.part(0, r.movie.frames())
}
