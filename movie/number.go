package movie

// withNumber lays a number of so many bytes behind a list, the highest one first.
func withNumber(list []byte, n, width int) []byte {
	for i := width - 1; i >= 0; i-- {
		list = append(list, byte(n>>(8*i)))
	}
	return list
}

// numberOf is the number in some bytes, the highest one first.
func numberOf(list []byte) int {
	n := 0
	for _, b := range list {
		n = n<<8 | int(b)
	}
	return n
}
