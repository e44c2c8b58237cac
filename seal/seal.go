// Package seal: books are closed and sealed: see DOC.md.
package seal

import (
	"signet/api"
	"signet/book"
	"signet/sum"
	"signet/tree"
)

const maxClimb = 4096 // leaves of a tree that is climbed

// Sum is the sum of some bytes (P3).
func Sum(text string) string { return sum.Of(text) }

// Root is the root of a tree over some texts (P4).
func Root(leaves []string) string { return sum.Root(leaves) }

// Path is the way from a leaf to the root (P4).
func Path(leaves []string, at int) ([]string, api.Errno) {
	if at < 0 || at >= len(leaves) {
		return nil, api.ErrArg
	}
	return sum.Trees().Path(leaves, at), api.OK
}

// Climb is the root to which a way leads (P4).
func Climb(leaf string, at int, many int, path []string) (string, api.Errno) {
	if many < 1 || many > maxClimb || at < 0 || at >= many || !isPath(path, at, many) {
		return "", api.ErrArg
	}
	return sum.Trees().Climb(leaf, at, many, path), api.OK
}

// isPath: whether a path has the form of one of this leaf among so many.
func isPath(path []string, at, many int) bool {
	if len(path) != tree.Depth(at, many) {
		return false
	}
	for _, text := range path {
		if len(text) != sum.Size {
			return false
		}
	}
	return true
}

// Seal closes a history and seals it (P5, P6).
func Seal(h api.History) (string, string, api.Errno) {
	b, errno := book.Close(h)
	if errno != api.OK {
		return "", "", errno
	}
	return b.Text(), b.Head(), api.OK
}

// Decode reads a package (P7).
func Decode(text string) (api.History, api.Errno) {
	b, errno := book.Read(text)
	if errno != api.OK {
		return api.History{}, errno
	}
	return b.History(), api.OK
}

// Extend seals a package with a period more (P7).
func Extend(text string, p api.Period) (string, string, api.Errno) {
	h, errno := Decode(text)
	if errno != api.OK {
		return "", "", errno
	}
	h.Periods = append(h.Periods, p)
	return Seal(h)
}
