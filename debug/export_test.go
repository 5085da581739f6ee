package debug

// PlaceEvery lets tests go just over where places are kept.
const PlaceEvery = placeEvery

// Places lets tests ask how many places a debugger keeps.
func Places(d *Debugger) int {
	return len(d.places)
}

// SumOf lets tests ask for the check sum of any bytes.
func SumOf(list []byte) int {
	return sumOf(list)
}
