package pack

import (
	"slices"

	"arcade/api"
)

// Packer packs bytes that come in pieces.
type Packer struct {
	kept   []byte // what is in no block yet, and ahead of it what matches may reach
	packed int    // how many of these are in blocks
	many   int    // bytes that have come
	sum    uint32 // of them
	begun  bool   // the head was told
	closed bool
}

// NewPacker makes one.
func NewPacker() *Packer {
	return &Packer{}
}

// Write takes some: it gives the packed bytes that are sure.
func (p *Packer) Write(data []byte) ([]byte, api.Errno) {
	if p.closed {
		return nil, api.ErrPackMore
	}
	if len(data) > api.MaxUnpacked-p.many {
		return nil, api.ErrPackLong
	}
	p.kept = append(p.kept, data...)
	p.many += len(data)
	p.sum = sumBehind(p.sum, data)
	left := len(p.kept) - p.packed
	return append(p.begin(), p.blocks(left-left%api.MaxBlock)...), api.OK
}

// Close ends it: it gives the rest.
func (p *Packer) Close() ([]byte, api.Errno) {
	if p.closed {
		return nil, api.ErrPackMore
	}
	rest := slices.Concat(p.begin(), p.blocks(len(p.kept)-p.packed), endBytes(p.sum))
	p.closed, p.kept = true, nil
	return rest, api.OK
}

// begin is the head, if it was not told yet.
func (p *Packer) begin() []byte {
	if p.begun {
		return nil
	}
	p.begun = true
	return headBytes()
}

// blocks packs so many of the bytes that are in no block yet.
func (p *Packer) blocks(many int) []byte {
	if many == 0 {
		return nil
	}
	end := p.packed + many
	blocks := blocksOf(p.kept[:end], p.packed)
	p.packed = min(end, api.MaxBack)
	p.kept = slices.Clone(p.kept[end-p.packed:])
	return blocks
}
