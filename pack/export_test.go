package pack

import "arcade/api"

// LengthsOf lets tests ask for lengths of codes that come of weights which no block of Pack has.
func LengthsOf(weights [api.Symbols]int) [api.Symbols]int {
	return *lengthsOf(weights)
}

// TokensOf lets tests ask for the tokens of blocks that are stored, too: of each the literal, the length, the distance.
func TokensOf(data []byte, from int) [][3]int {
	var list [][3]int
	for _, t := range tokensOf(data, from) {
		list = append(list, [3]int{int(t.literal), t.length, t.distance})
	}
	return list
}
