package pack

import (
	"slices"

	"arcade/api"
)

// node is a symbol, or two nodes taken together.
type node struct {
	symbol int
	weight int
	above  int // the number of the node that it is in
	depth  int // in how many it is
}

// lengthsOf is the codes' lengths of symbols by their weights; those of the weight 0 have none.
func lengthsOf(weights [api.Symbols]int) *codeLengths {
	nodes := leaves(weights)
	many := len(nodes)
	nodes = joined(nodes)
	for i := len(nodes) - 2; i >= 0; i-- {
		nodes[i].depth = nodes[nodes[i].above].depth + 1
	}
	lengths := &codeLengths{}
	for _, leaf := range nodes[:many] {
		lengths[leaf.symbol] = max(leaf.depth, 1) // one alone is in no other node
	}
	return lengths
}

// leaves are the nodes of the symbols that are used, the lightest first, and of those alike the one with the lower symbol.
func leaves(weights [api.Symbols]int) []node {
	var list []node
	for symbol, weight := range weights {
		if weight > 0 {
			list = append(list, node{symbol: symbol, weight: weight})
		}
	}
	slices.SortStableFunc(list, func(a, b node) int { return a.weight - b.weight })
	return list
}

// joined puts behind the leaves the nodes that are made of two each, till one is in none. Those that are made grow heavier, so the lightest one that is left is the first leaf or the first made one; a leaf, if they are alike: it stands ahead.
func joined(nodes []node) []node {
	many := len(nodes)
	leaf, made := 0, many
	take := func() int {
		if leaf < many && (made == len(nodes) || nodes[leaf].weight <= nodes[made].weight) {
			leaf++
			return leaf - 1
		}
		made++
		return made - 1
	}
	for range many - 1 {
		a, b := take(), take()
		nodes[a].above, nodes[b].above = len(nodes), len(nodes)
		nodes = append(nodes, node{weight: nodes[a].weight + nodes[b].weight})
	}
	return nodes
}
