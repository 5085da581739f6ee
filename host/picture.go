package host

import "arcade/api"

// Of a picture as it is stored: how many places a byte has, how many bits a place.
const (
	placesInByte = 4
	placeBits    = 2
)

// The check sum is reckoned with the lowest bit first.
const sumPolynomial = 0xedb88320

// picture loads the picture of the session's last frame; ahead of the first one its buffer is all 0, as it was taken.
func (h *Host) picture(s *session) []byte {
	stored, _ := h.pool.Load(s.arena, s.picture, 0, api.PictureSize)
	return stored
}

// packed is a picture as it is stored: four places a byte, the first one highest.
func packed(pixels []byte) []byte {
	stored := make([]byte, api.PictureSize)
	for i, place := range pixels {
		stored[i/placesInByte] |= place << (placeBits * (placesInByte - 1 - i%placesInByte))
	}
	return stored
}

// sumOf is the check sum of bytes.
func sumOf(bytes []byte) int {
	sum := ^uint32(0)
	for _, b := range bytes {
		sum ^= uint32(b)
		for range 8 {
			low := sum & 1
			sum = sum>>1 ^ low*sumPolynomial
		}
	}
	return int(^sum)
}
