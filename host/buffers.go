package host

import "slices"

// piece is bytes that are stored from a buffer's beginning on.
type piece struct {
	buffer, bytes int
}

// keep stores bytes in buffers that are taken for them, so many in each.
func (h *Host) keep(arena int, data []byte, size int, p *picker) []piece {
	var pieces []piece
	for part := range slices.Chunk(data, size) {
		lease, _ := h.pool.Take(arena, size, p.next())
		h.pool.Store(arena, lease.Buffer, 0, part)
		pieces = append(pieces, piece{buffer: lease.Buffer, bytes: len(part)})
	}
	return pieces
}

// fetch loads what was kept.
func (h *Host) fetch(arena int, pieces []piece) []byte {
	var data []byte
	for _, x := range pieces {
		part, _ := h.pool.Load(arena, x.buffer, 0, x.bytes)
		data = append(data, part...)
	}
	return data
}

// picker tells picks one by one, each of them once, whoever asks.
type picker struct {
	left []int
}

func (p *picker) next() int {
	if len(p.left) == 0 {
		return 0
	}
	pick := p.left[0]
	p.left = p.left[1:]
	return pick
}
