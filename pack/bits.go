package pack

import "arcade/api"

// bitWriter makes bytes of bits, the highest one first.
type bitWriter struct {
	bytes []byte
	used  int // bits, of all bytes
}

// write lays the lowest bits of a number behind the others.
func (w *bitWriter) write(n, many int) {
	for i := many - 1; i >= 0; i-- {
		if w.used%8 == 0 {
			w.bytes = append(w.bytes, 0)
		}
		bit := byte(n >> i & 1)
		w.bytes[w.used/8] |= bit << (7 - w.used%8)
		w.used++
	}
}

// writeRest writes what a number is above the power of two with this exponent.
func (w *bitWriter) writeRest(n, exponent int) {
	w.write(n-(1<<exponent), exponent)
}

// done is the bytes; the rest of the last one is 0.
func (w *bitWriter) done() []byte {
	return w.bytes
}

// bitReader reads bits of bytes, the highest one first.
type bitReader struct {
	bytes []byte
	used  int
}

// read is the number in the next bits; ErrPackBits, if there are not so many.
func (r *bitReader) read(many int) (int, api.Errno) {
	if many > 8*len(r.bytes)-r.used {
		return 0, api.ErrPackBits
	}
	n := 0
	for range many {
		n = n<<1 | int(r.bytes[r.used/8]>>(7-r.used%8)&1)
		r.used++
	}
	return n, api.OK
}

// readRest is a number of which the next bits say how much it is above the power of two with this exponent.
func (r *bitReader) readRest(exponent int) (int, api.Errno) {
	n, e := r.read(exponent)
	if e != api.OK {
		return 0, e
	}
	return 1<<exponent + n, api.OK
}

// restIsEmpty tells whether less than a byte is left, and that is 0.
func (r *bitReader) restIsEmpty() bool {
	left := 8*len(r.bytes) - r.used
	if left >= 8 {
		return false
	}
	rest, _ := r.read(left)
	return rest == 0
}
