// Package sum: the sums of texts and the trees of sums: see DOC.md, P3 and P4. It stands below seal and audit, so that both, and what lies between them, sum in one way.
package sum

import (
	"signet/api"
	"signet/tree"
)

// Size is how many bytes a sum has.
const Size = 2

const (
	first  = 5381 // of no bytes
	factor = 33
)

// Of is the sum of a text.
func Of(text string) string {
	h := first
	for i := range len(text) {
		h = (h*factor + int(text[i]) + 1) % api.Mod
	}
	return string([]byte{byte(h >> 8), byte(h)})
}

// Root is the root of the tree of sums over some texts, or over none.
func Root(leaves []string) string {
	if len(leaves) == 0 {
		return Of("")
	}
	return Trees().Root(leaves)
}

// Trees builds trees of sums. What a leaf and what a node is summed over begin with different bytes, so that a node's text is never a leaf's.
func Trees() tree.Builder {
	return tree.Builder{
		Leaf: func(text string) string { return Of("\x00" + text) },
		Node: func(left, right string) string { return Of("\x01" + left + right) },
	}
}
