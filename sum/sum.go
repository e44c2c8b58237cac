// Package sum: the sums of texts and the trees of sums: see DOC.md, P3 and P4. It stands below seal and audit, so that both, and what lies between them, sum in one way.
package sum

import (
	"slices"

	"signet/api"
	"signet/tree"
)

// Size is how many bytes a sum has.
const Size = 2

const (
	first  = 5381 // of no bytes
	factor = 33
)

// Of is the sum of a text.
func Of(text string) string {
	h := first
	for i := range len(text) {
		h = (h*factor + int(text[i]) + 1) % api.Mod
	}
	return string([]byte{byte(h >> 8), byte(h)})
}

// Root is the root of the tree of sums over some texts, or over none.
func Root(leaves []string) string {
	if len(leaves) == 0 {
		return Of("")
	}
	return Trees().Root(leaves)
}

// Trees builds trees of sums.
func Trees() tree.Builder { return treesBy(Of) }

// OfRoot are the texts that are summed for the root over some texts, or over none, from the root down.
func OfRoot(leaves []string) []string {
	if len(leaves) == 0 {
		return []string{""}
	}
	return summed(func(trees tree.Builder) { trees.Root(leaves) })
}

// OfClimb are the texts that are summed for the root to which a leaf and its path lead, from the root down; at must be 0 to many - 1, and the path must have tree.Depth(at, many) texts.
func OfClimb(leaf string, at, many int, path []string) []string {
	return summed(func(trees tree.Builder) { trees.Climb(leaf, at, many, path) })
}

// summed are the texts that are summed while something is built, the last one first: a text stands behind that in which its sum stands, since what stands in a text was summed ahead of it.
func summed(build func(trees tree.Builder)) []string {
	var texts []string
	build(treesBy(func(text string) string {
		texts = append(texts, text)
		return Of(text)
	}))
	slices.Reverse(texts)
	return texts
}

// treesBy builds trees by what sums a text. What a leaf and what a node is summed over begin with different bytes, so that a node's text is never a leaf's.
func treesBy(of func(text string) string) tree.Builder {
	return tree.Builder{
		Leaf: func(text string) string { return of("\x00" + text) },
		Node: func(left, right string) string { return of("\x01" + left + right) },
	}
}
