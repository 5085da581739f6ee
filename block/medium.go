package block

import "arcade/api"

// medium is the bytes of all sectors, one sector behind the other.
type medium []byte

// sectors tells how many it has.
func (m medium) sectors() int {
	return len(m) / api.SectorSize
}

// sector cuts one out. Its room ends where it ends, so that what is made longer never runs into the next one.
func (m medium) sector(n int) []byte {
	from := n * api.SectorSize
	to := from + api.SectorSize
	return m[from:to:to]
}
