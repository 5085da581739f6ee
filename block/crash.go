package block

import (
	"slices"

	"arcade/api"
)

// Crash tells the bytes that are left if the machine stops now: of each write that is not safe what its pick says.
func (s *Store) Crash(picks []int) []byte {
	left := slices.Clone(s.safe)
	for i, w := range s.pending {
		from, to := span(pickAt(picks, i))
		copy(left.sector(w.sector)[from:to], w.bytes[from:to])
	}
	return left
}

// pickAt is the pick of the i-th write, made one that is not below 0.
func pickAt(picks []int, i int) int {
	if i >= len(picks) {
		return 0
	}
	if picks[i] < 0 {
		return -(picks[i] + 1)
	}
	return picks[i]
}

// span is which bytes of a write are there: the first ones, or the last ones; none of them, or up to all.
func span(pick int) (from, to int) {
	many := pick % (api.SectorSize + 1)
	if pick/(api.SectorSize+1)%2 == 0 {
		return 0, many
	}
	return api.SectorSize - many, api.SectorSize
}
