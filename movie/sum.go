package movie

import "sync"

// The check sum is reckoned with the lowest bit first.
const sumPolynomial = 0xedb88320

// A sum goes on by half bytes, the lower one first: a table of their values is a short one.
const (
	halfBits = 4
	halves   = 1 << halfBits
)

// What each half byte does to a sum: filled when the first sum is asked for.
var (
	tableOnce sync.Once
	sumTable  [halves]uint32
)

func fillTable() {
	for i := range sumTable {
		sum := uint32(i)
		for range halfBits {
			low := sum & 1
			sum = sum>>1 ^ low*sumPolynomial
		}
		sumTable[i] = sum
	}
}

// sumOf is the check sum of bytes.
func sumOf(data []byte) int {
	tableOnce.Do(fillTable)
	sum := ^uint32(0)
	for _, b := range data {
		sum ^= uint32(b)
		sum = behindHalf(behindHalf(sum))
	}
	return int(^sum)
}

// behindHalf is a sum once the half byte in its lowest bits has gone by.
func behindHalf(sum uint32) uint32 {
	return sum>>halfBits ^ sumTable[sum%halves]
}
