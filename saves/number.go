package saves

// numberOf is the number in some bytes, the lower one first.
func numberOf(b []byte) int {
	n := 0
	for i, x := range b {
		n |= int(x) << (8 * i)
	}
	return n
}

func setNumber(b []byte, n int) {
	for i := range b {
		b[i] = byte(n >> (8 * i))
	}
}

const sumMask = 3988292384

// sumOf is the check sum of bytes.
func sumOf(b []byte) int {
	sum := ^uint32(0)
	for _, x := range b {
		sum ^= uint32(x)
		for range 8 {
			low := sum & 1
			sum = sum>>1 ^ sumMask*low
		}
	}
	return int(^sum)
}
