package pack

import (
	"slices"
	"sync"

	"arcade/api"
)

// How many goroutines code blocks at one time, at most.
const workers = 8

// blocksOf is the blocks of the bytes from a place on, one behind the other; what lies ahead of the place is in blocks already.
func blocksOf(data []byte, from int) []byte {
	many := (len(data) - from + api.MaxBlock - 1) / api.MaxBlock
	blocks := make([][]byte, many)
	numbers := make(chan int)
	var all sync.WaitGroup
	for range min(workers, many) {
		all.Add(1)
		go func() {
			defer all.Done()
			for i := range numbers {
				start := from + i*api.MaxBlock
				blocks[i] = blockOf(data[:min(start+api.MaxBlock, len(data))], start)
			}
		}()
	}
	for i := range many {
		numbers <- i
	}
	close(numbers)
	all.Wait()
	return slices.Concat(blocks...)
}

// blockOf is the block of the bytes from a place on, of the kind that takes less room.
func blockOf(data []byte, from int) []byte {
	stored := storedBlock(data[from:])
	coded := codedBlock(len(data)-from, tokensOf(data, from))
	if len(coded) < len(stored) {
		return coded
	}
	return stored
}

func storedBlock(plain []byte) []byte {
	return append(withNumber([]byte{kindStored}, len(plain), lengthWidth), plain...)
}

// codedBlock is the block of tokens of which so many bytes come.
func codedBlock(many int, tokens []token) []byte {
	codes := lengthsOf(weightsOf(tokens))
	body := append(codes.table(), codes.bitsOf(tokens)...)
	block := withNumber([]byte{kindCoded}, many, lengthWidth)
	block = withNumber(block, len(body), lengthWidth)
	return append(block, body...)
}
