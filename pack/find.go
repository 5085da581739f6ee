package pack

import (
	"math/bits"

	"arcade/api"
)

// The multiplier that spreads three bytes over the slots: 2 to the 32nd over the golden ratio.
const spread = 2654435769

// finder knows where each row of three bytes stood last.
type finder struct {
	data  []byte
	slots []int // the place, and 1; 0 where nothing is
	shift int   // how far what is spread is shifted to be a slot's number
}

// finderOf is one for data of which so many places are added, at most: it has more than twice as many slots, so that free ones are near.
func finderOf(data []byte, places int) *finder {
	slotBits := bits.Len(uint(places)) + 1
	return &finder{data: data, slots: make([]int, 1<<slotBits), shift: 32 - slotBits}
}

// tokensOf is the tokens of the bytes from a place on.
func tokensOf(data []byte, from int) []token {
	first := max(0, from-api.MaxBack)
	f := finderOf(data, len(data)-first)
	for i := first; i < from; i++ {
		f.add(i)
	}
	var tokens []token
	for i := from; i < len(data); {
		t := f.tokenAt(i)
		tokens = append(tokens, t)
		for range t.length {
			f.add(i)
			i++
		}
	}
	return tokens
}

// tokenAt is a match with what is the nearest, if there is something; else a literal.
func (f *finder) tokenAt(i int) token {
	distance := f.distanceAt(i)
	if distance == 0 {
		return token{literal: f.data[i], length: 1}
	}
	length := minMatch
	for length < api.MaxMatch && i+length < len(f.data) && f.data[i+length] == f.data[i+length-distance] {
		length++
	}
	return token{length: length, distance: distance}
}

// distanceAt is how far back the three bytes of a place stood last; 0, if they did not, or too far.
func (f *finder) distanceAt(i int) int {
	if !f.hasThree(i) {
		return 0
	}
	last := f.slots[f.slotOf(i)]
	if last == 0 {
		return 0
	}
	distance := i - (last - 1)
	if distance > api.MaxBack {
		return 0
	}
	return distance
}

// add says that the three bytes of a place stood there last.
func (f *finder) add(i int) {
	if f.hasThree(i) {
		f.slots[f.slotOf(i)] = i + 1
	}
}

// hasThree tells whether three bytes are there from a place on. Those of later blocks are not looked at.
func (f *finder) hasThree(i int) bool {
	return i+minMatch <= len(f.data)
}

// slotOf is the slot of the three bytes of a place: the one where they are known already, or a free one.
func (f *finder) slotOf(i int) int {
	three := f.threeAt(i)
	slot := int(three * spread >> f.shift)
	for f.slots[slot] != 0 && f.threeAt(f.slots[slot]-1) != three {
		slot = (slot + 1) % len(f.slots)
	}
	return slot
}

func (f *finder) threeAt(i int) uint32 {
	return uint32(f.data[i])<<16 | uint32(f.data[i+1])<<8 | uint32(f.data[i+2])
}
