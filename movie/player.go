package movie

import (
	"slices"

	"arcade/api"
	"arcade/console"
)

// Player plays a movie on a console.
type Player struct {
	movie   *Movie
	rom     []byte // for the consoles that are made later
	console *console.Console
	at      int
}

// consoleOf is a new console of a ROM that is as a state says.
func consoleOf(rom, state []byte) (*console.Console, api.Errno) {
	c, e := console.New(rom, nil)
	if e != api.OK {
		return nil, e
	}
	if c.Load(state) != api.OK {
		return nil, api.ErrMovieState
	}
	return c, api.OK
}

// Play makes a player.
func (m *Movie) Play(rom []byte) (*Player, api.Errno) {
	c, e := consoleOf(rom, m.start)
	if e != api.OK {
		return nil, e
	}
	return &Player{movie: m, rom: slices.Clone(rom), console: c}, api.OK
}

// At tells how many frames lie behind.
func (p *Player) At() int {
	return p.at
}

// Next shows the next frame. One that is not as it was recorded is shown, too.
func (p *Player) Next() (api.Frame, api.Errno) {
	m := p.movie
	if p.at >= m.frames() {
		return api.Frame{}, api.ErrMovieEnd
	}
	f, _ := p.console.Frame(int(m.buttons[p.at]))
	recorded := m.sums[p.at]
	p.at++
	if sumOf(f.Pixels) != recorded {
		return f, api.ErrMovieParted
	}
	return f, api.OK
}

// Seek goes to a place. It sets out from a state even where the player is nearer: with another ROM the player may have gone another way.
func (p *Player) Seek(place int) api.Errno {
	if place < 0 || place > p.movie.frames() {
		return api.ErrMoviePlace
	}
	from, state := p.movie.lastState(place)
	c, e := consoleOf(p.rom, state)
	if e != api.OK {
		return e
	}
	for _, buttons := range p.movie.buttons[from:place] {
		c.Frame(int(buttons))
	}
	p.console, p.at = c, place
	return api.OK
}

// State tells the console's state.
func (p *Player) State() []byte {
	return p.console.State()
}

// Record goes on from here as a recorder.
func (p *Player) Record() *Recorder {
	c, _ := consoleOf(p.rom, p.console.State()) // a console of this ROM told it
	m := p.movie.part(0, p.at)
	m.size, m.romSum = len(p.rom), sumOf(p.rom)
	return &Recorder{console: c, movie: m}
}
