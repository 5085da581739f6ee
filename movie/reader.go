package movie

import (
	"arcade/api"
	"arcade/pack"
)

// reader takes what bytes tell, from the front on.
type reader struct {
	rest  []byte
	lacks bool // what was asked for was not there: from then on nothing comes
}

// take is the next bytes, so many.
func (r *reader) take(many int) []byte {
	if r.lacks || many > len(r.rest) {
		r.lacks = true
		return nil
	}
	taken := r.rest[:many]
	r.rest = r.rest[many:]
	return taken
}

func (r *reader) number(width int) int {
	return numberOf(r.take(width))
}

// state is the next state, unpacked.
func (r *reader) state() []byte {
	packed := r.take(r.number(lengthWidth))
	state, e := pack.Unpack(packed)
	if e != api.OK {
		r.lacks = true
	}
	return state
}
