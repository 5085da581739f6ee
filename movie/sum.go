package movie

import "sync"

// The check sum is reckoned with the lowest bit first.
const sumPolynomial = 0xedb88320

// What each byte does to a sum: filled when the first sum is asked for.
var (
	tableOnce sync.Once
	sumTable  [256]uint32
)

func fillTable() {
	for i := range sumTable {
		sum := uint32(i)
		for range 8 {
			low := sum & 1
			sum = sum>>1 ^ low*sumPolynomial
		}
		sumTable[i] = sum
	}
}

// sumOf is the check sum of bytes.
func sumOf(data []byte) int {
	tableOnce.Do(fillTable)
	sum := ^uint32(0)
	for _, b := range data {
		sum = sum>>8 ^ sumTable[byte(sum)^b]
	}
	return int(^sum)
}
