package proto

import "arcade/api"

// reader reads a frame, behind its length, part by part. Where that cannot be it gives up by panic, so that nobody who reads asks behind each part whether it was there.
type reader struct {
	left []byte
}

// gaveUp is what a reader that gives up panics with.
type gaveUp struct {
	why api.Errno
}

func giveUp(why api.Errno) {
	panic(gaveUp{why})
}

// attempt does what may give up, and tells why it did; api.OK, if it came through.
func attempt(do func()) (why api.Errno) {
	defer func() {
		switch g := recover().(type) {
		case nil:
		case gaveUp:
			why = g.why
		default:
			// No other panic is meant to be here: hiding it would hide a fault of the program.
			panic(g)
		}
	}()
	do()
	return api.OK
}

// take reads so many bytes. They are the frame's own.
func (r *reader) take(many int) []byte {
	if many > len(r.left) {
		giveUp(api.ErrProtoLength)
	}
	b := r.left[:many]
	r.left = r.left[many:]
	return b
}

// number reads a number of so many bytes.
func (r *reader) number(width int) value {
	return numberValue(numberOf(r.take(width)))
}

// list reads bytes, ahead of which stands how many there are, in so many bytes.
func (r *reader) list(width int) value {
	many := r.number(width).number
	return listValue(copyOf(r.take(many)))
}

// end gives up, if something is left.
func (r *reader) end() {
	if len(r.left) > 0 {
		giveUp(api.ErrProtoLength)
	}
}

// numberOf is the number that stands in these bytes, the highest one first.
func numberOf(b []byte) int {
	n := 0
	for _, x := range b {
		n = n<<8 | int(x)
	}
	return n
}

// withNumber writes a number of so many bytes behind others.
func withNumber(b []byte, n, width int) []byte {
	for i := width - 1; i >= 0; i-- {
		b = append(b, byte(n>>(8*i)))
	}
	return b
}
