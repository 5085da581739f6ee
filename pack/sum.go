package pack

const sumMask = 3988292384

// Sum is the sum of bytes.
func Sum(data []byte) int {
	return int(sumBehind(0, data))
}

// sumBehind is the sum of some bytes and, behind them, these; that of no bytes is 0. So it goes on where bytes come in pieces.
func sumBehind(sum uint32, data []byte) uint32 {
	sum = ^sum
	for _, b := range data {
		sum ^= uint32(b)
		for range 8 {
			low := sum & 1
			sum = sum>>1 ^ sumMask*low
		}
	}
	return ^sum
}
