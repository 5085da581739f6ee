package board

import (
	"math/bits"

	"arcade/api"
)

// What the picture unit's Tick asks for, by its bits.
const (
	asksPicture = 1
	asksLine    = 2
)

// The requests that there are.
const requestBits = 31

// Cycle lets one machine cycle go by.
func (b *Board) Cycle() {
	moved := b.move()
	data := b.serve(b.processor.Want(), moved)
	b.ports.Step(api.CycleClocks)
	b.raise(b.picture.Tick())
	b.take(b.processor.Tick(data, b.lines()))
	b.mover.endCycle()
}

// serve does what the processor wants, and tells what it reads. While a byte is moved nobody answers it below the ports.
func (b *Board) serve(want api.Want, moved bool) int {
	shut := moved && want.Addr < gapEnd
	switch {
	case want.Kind == api.Read && shut:
		return nothing
	case want.Kind == api.Read:
		return b.read(want.Addr)
	case want.Kind == api.Write && !shut:
		b.write(want.Addr, want.Data)
	}
	return 0
}

// raise hands on to the ports what the picture unit asks for.
func (b *Board) raise(asked int) {
	if asked&asksPicture != 0 {
		b.ports.Raise(api.AskPicture)
	}
	if asked&asksLine != 0 {
		b.ports.Raise(api.AskLine)
	}
}

// lines tells the interrupts that are asked for and let.
func (b *Board) lines() int {
	return int(b.let) & b.ports.Requests() & requestBits
}

// take takes a request away that the processor has taken, told by its bit.
func (b *Board) take(taken int) {
	if taken != 0 {
		b.ports.Take(bits.TrailingZeros(uint(taken)))
	}
}
