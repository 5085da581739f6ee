package pack

import (
	"math/bits"

	"arcade/api"
)

// The symbols of matches stand behind those of the literals.
const firstMatch = 256

// A match has minMatch bytes or more; what is told of its length is how much that is above matchBase.
const (
	minMatch  = 3
	matchBase = 2
)

// How the exponent of a distance is told, and how great it may be.
const (
	exponentBits = 4
	maxExponent  = 12
)

// token is a literal, of the length 1 and without a distance; or a match.
type token struct {
	literal          byte
	length, distance int
}

// symbol is the token's symbol. That of a match tells the exponent of its length.
func (t token) symbol() int {
	if t.distance == 0 {
		return int(t.literal)
	}
	return firstMatch + exponentOf(t.length-matchBase)
}

// writeTail writes what stands behind the symbol's code.
func (t token) writeTail(w *bitWriter) {
	if t.distance == 0 {
		return
	}
	length := t.length - matchBase
	w.writeRest(length, exponentOf(length))
	exponent := exponentOf(t.distance)
	w.write(exponent, exponentBits)
	w.writeRest(t.distance, exponent)
}

// tokenBehind reads what stands behind a symbol's code: the token.
func tokenBehind(symbol int, r *bitReader) (token, api.Errno) {
	if symbol < firstMatch {
		return token{literal: byte(symbol), length: 1}, api.OK
	}
	length, e := r.readRest(symbol - firstMatch)
	if e != api.OK {
		return token{}, e
	}
	exponent, e := r.read(exponentBits)
	if e != api.OK {
		return token{}, e
	}
	if exponent > maxExponent {
		return token{}, api.ErrPackMatch
	}
	distance, e := r.readRest(exponent)
	return token{length: length + matchBase, distance: distance}, e
}

// laidBehind lays the token's bytes behind all that has come; a match may reach into its own.
func (t token) laidBehind(past []byte) []byte {
	if t.distance == 0 {
		return append(past, t.literal)
	}
	for range t.length {
		past = append(past, past[len(past)-t.distance])
	}
	return past
}

// exponentOf is that of the greatest power of two that is not above a number, 1 or more.
func exponentOf(n int) int {
	return bits.Len(uint(n)) - 1
}
