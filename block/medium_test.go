package block

import (
	"bytes"
	"testing"
)

// A sector that is cut out is a piece of all bytes, but what is made longer never runs into the next one.
func TestK2PiecesAreBounded(t *testing.T) {
	m := make(medium, 3*512)
	for n := range 3 {
		piece := m.sector(n)
		if len(piece) != 512 || cap(piece) != 512 {
			t.Errorf("sector %d: %d bytes, room for %d", n, len(piece), cap(piece))
		}
		piece[0] = byte(n + 1)
		_ = append(piece, 99)
	}
	want := make([]byte, 3*512)
	want[0], want[512], want[1024] = 1, 2, 3
	if !bytes.Equal(m, want) {
		t.Error("the sectors are no pieces, or run into one another")
	}
}
