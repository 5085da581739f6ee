package board

import (
	"arcade/api"
	"arcade/cpu"
	"arcade/ports"
	"arcade/ppu"
)

// The parts whose own states stand in a state, in their order.
const (
	processorPart = iota
	cartridgePart
	portsPart
	picturePart
	manyParts
)

// Ahead of each of them stands how many bytes it has; behind them all stand the memory and the mover.
const (
	lengthSize = 3
	moverSize  = 5
)

// State tells all that it is, but the cartridge's ROM.
func (b *Board) State() []byte {
	parts := [manyParts][]byte{
		processorPart: b.processor.State(),
		cartridgePart: b.cartridgeState(),
		portsPart:     b.ports.State(),
		picturePart:   b.picture.State(),
	}
	var state []byte
	for _, part := range parts {
		state = append(state, byte(len(part)), byte(len(part)>>8), byte(len(part)>>16))
		state = append(state, part...)
	}
	state = b.appendMemory(state)
	m := b.mover
	return append(state, m.written, m.left, m.from, m.wait, m.next)
}

// Load makes it so.
func (b *Board) Load(state []byte) api.Errno {
	parts, rest, ok := split(state)
	if !ok || len(rest) != memorySize+moverSize {
		return api.ErrBoardState
	}
	loaded := Board{cartridge: b.cartridge, processor: cpu.New(), ports: ports.New(), picture: ppu.New()}
	if loaded.processor.Load(parts[processorPart]) != api.OK ||
		loaded.ports.Load(parts[portsPart]) != api.OK ||
		loaded.picture.Load(parts[picturePart]) != api.OK {
		return api.ErrBoardState
	}
	loaded.loadMemory(rest[:memorySize])
	loaded.mover = moverOf(rest[memorySize:])
	// The cartridge comes last: it alone is the one that this board has, and what it takes is not taken back.
	if !loaded.mover.mayBe() || !b.loadCartridge(parts[cartridgePart]) {
		return api.ErrBoardState
	}
	*b = loaded
	return api.OK
}

// split cuts the parts off a state, and tells whether all of them are there.
func split(state []byte) (parts [manyParts][]byte, rest []byte, ok bool) {
	rest = state
	for i := range parts {
		if len(rest) < lengthSize {
			return parts, nil, false
		}
		size := int(rest[0]) | int(rest[1])<<8 | int(rest[2])<<16
		rest = rest[lengthSize:]
		if len(rest) < size {
			return parts, nil, false
		}
		parts[i], rest = rest[:size], rest[size:]
	}
	return parts, rest, true
}

func moverOf(state []byte) mover {
	return mover{written: state[0], left: state[1], from: state[2], wait: state[3], next: state[4]}
}

func (b *Board) cartridgeState() []byte {
	if b.cartridge == nil {
		return nil
	}
	return b.cartridge.State()
}

func (b *Board) loadCartridge(state []byte) bool {
	if b.cartridge == nil {
		return len(state) == 0
	}
	return b.cartridge.Load(state) == api.OK
}
