package seal_test

// P1 and P2, which hold for every call.

import (
	"slices"
	"strings"
	"testing"

	"signet/api"
	"signet/seal"
)

var edgeNumbers = []int{-1 << 63, -1<<63 + 1, -1 << 32, -4097, -4096, -2, -1, 0, 1, 2, 3, 4, 7, 8, 4095, 4096, 4097, 1 << 31, 1 << 32, 1<<32 + 1, 1 << 62, 1<<63 - 2, 1<<63 - 1}

func edgeLists() [][]string {
	return [][]string{
		nil, {}, {""}, {"", ""}, {"", "", ""}, {"p"}, {"pp"}, {"pp", "pp"}, {"pp", "", "pp"}, {"ppp", "pp"},
		{strings.Repeat("long", 1000), "\x00", "\xff"}, slices.Repeat([]string{"pp"}, 12), slices.Repeat([]string{"pp"}, 13), make([]string, 5000),
	}
}

// A panic in one of these calls fails the test, and so does one that does not end.
func TestEveryCallEnds(t *testing.T) {
	for _, list := range edgeLists() {
		if r := seal.Root(list); len(r) != 2 {
			t.Errorf("P1: Root of %d texts = %q", len(list), r)
		}
		for _, at := range edgeNumbers {
			p, e := seal.Path(list, at)
			if isLeaf := at >= 0 && at < len(list); isLeaf != (e == api.OK) || e != api.OK && (e != api.ErrArg || p != nil) {
				t.Errorf("P1: Path of %d in %d texts = %q, %d", at, len(list), p, e)
			}
			for _, many := range edgeNumbers {
				for _, leaf := range []string{"", "x", strings.Repeat("x", 300)} {
					r, e := seal.Climb(leaf, at, many, list)
					if e == api.OK && len(r) != 2 || e != api.OK && (e != api.ErrArg || r != "") {
						t.Errorf("P1: Climb from %d of %d, %d texts = %q, %d", at, many, len(list), r, e)
					}
				}
			}
		}
	}
}

// withMore is a list of the texts with others behind its end, in the same memory; whole is all of it.
func withMore(texts []string) (list, whole []string) {
	whole = append(append([]string{"ahead"}, texts...), "behind", "", "pp")
	return whole[1 : 1+len(texts)], whole
}

func TestWhatIsHandedInStaysAsItIs(t *testing.T) {
	for _, n := range append([]int{0}, sizes...) {
		leaves, whole := withMore(someLeaves(n))
		before := slices.Clone(whole)
		seal.Root(leaves)
		for at := -1; at <= n; at++ {
			seal.Path(leaves, at)
		}
		if !slices.Equal(whole, before) {
			t.Errorf("P2: %d leaves were written into: %q", n, whole)
		}
		for at := range n {
			path, whole := withMore(refPath(leaves, at))
			before := slices.Clone(whole)
			seal.Climb(leaves[at], at, n, path)
			seal.Climb(leaves[at], at, n+1, path)
			seal.Climb(leaves[at], n, n, path)
			if !slices.Equal(whole, before) {
				t.Errorf("P2: the path of %d in %d leaves was written into: %q", at, n, whole)
			}
		}
	}
}

// spoil writes into all of a list's memory, its spare room too.
func spoil(list []string) {
	for i := range list[:cap(list)] {
		list[:cap(list)][i] = "spoilt"
	}
}

func TestAPathIsNewMemory(t *testing.T) {
	for _, n := range sizes {
		leaves, whole := withMore(someLeaves(n))
		before := slices.Clone(whole)
		for at := range n {
			first, _ := seal.Path(leaves, at)
			other, _ := seal.Path(leaves, n-1-at)
			spoil(other)
			if want := refPath(leaves, at); !slices.Equal(first, want) {
				t.Errorf("P2: two paths in %d leaves share memory: %q", n, first)
			}
			spoil(first)
			if again, _ := seal.Path(leaves, at); !slices.Equal(again, refPath(someLeaves(n), at)) {
				t.Errorf("P2: a path that came out was kept: %q", again)
			}
		}
		if !slices.Equal(whole, before) {
			t.Errorf("P2: a path shares memory with its %d leaves: %q", n, whole)
		}
	}
}

func TestNothingIsKept(t *testing.T) {
	for _, n := range sizes {
		leaves := someLeaves(n)
		root := seal.Root(leaves)
		path, _ := seal.Path(leaves, n-1)
		wantPath := refPath(leaves, n-1)
		leaves[0] = "changed"
		if r, want := seal.Root(leaves), refRoot(leaves); r != want || root != refRoot(someLeaves(n)) {
			t.Errorf("P2: Root of %d leaves, one of them changed = %q, want %q", n, r, want)
		}
		if !slices.Equal(path, wantPath) {
			t.Errorf("P2: the path that came out of %d leaves changed with them: %q", n, path)
		}
		if p, _ := seal.Path(leaves, n-1); !slices.Equal(p, refPath(leaves, n-1)) {
			t.Errorf("P2: Path in %d leaves, one of them changed = %q", n, p)
		}
		if r, e := seal.Climb(leaves[n-1], n-1, n, refPath(leaves, n-1)); r != refRoot(leaves) || e != api.OK {
			t.Errorf("P2: Climb in %d leaves, one of them changed = %q, %d", n, r, e)
		}
	}
}
