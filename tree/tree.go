// Package tree: trees over lists of texts, whatever makes their leaves and nodes: see DOC.md, P4.
package tree

// Builder builds trees. It holds what makes a leaf and what makes a node, so that the shape of a tree is told in one place, for whoever wants something else of its leaves and nodes too.
type Builder struct {
	Leaf func(text string) string
	Node func(left, right string) string
}

// Root is the root over one leaf or more.
func (b Builder) Root(leaves []string) string {
	if len(leaves) == 1 {
		return b.Leaf(leaves[0])
	}
	k := split(len(leaves))
	return b.Node(b.Root(leaves[:k]), b.Root(leaves[k:]))
}

// Path is what lies beside the way from the leaf with the number at to the root, the lowest first; at must be the number of a leaf.
func (b Builder) Path(leaves []string, at int) []string {
	if len(leaves) == 1 {
		return nil
	}
	k := split(len(leaves))
	if at < k {
		return append(b.Path(leaves[:k], at), b.Root(leaves[k:]))
	}
	return append(b.Path(leaves[k:], at-k), b.Root(leaves[:k]))
}

// Climb is the root to which a leaf and its path lead; at must be 0 to many - 1, and the path must have Depth(at, many) texts.
func (b Builder) Climb(leaf string, at, many int, path []string) string {
	if many == 1 {
		return b.Leaf(leaf)
	}
	k := split(many)
	last := len(path) - 1
	if at < k {
		return b.Node(b.Climb(leaf, at, k, path[:last]), path[last])
	}
	return b.Node(path[last], b.Climb(leaf, at-k, many-k, path[:last]))
}

// Depth is how many texts the path of the leaf with the number at among many leaves has; at must be 0 to many - 1.
func Depth(at, many int) int {
	depth := 0
	for many > 1 {
		k := split(many)
		if at < k {
			many = k
		} else {
			at, many = at-k, many-k
		}
		depth++
	}
	return depth
}

// split is the greatest power of two below n, for n of 2 and more: so many leaves stand on the left.
func split(n int) int {
	k := 1
	for k < n-k {
		k *= 2
	}
	return k
}
