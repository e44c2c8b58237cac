package seal_test

import (
	"fmt"
	"slices"
	"strings"
	"testing"

	"signet/api"
	"signet/seal"
)

// sizes: numbers of leaves that are and are not powers of two.
var sizes = []int{1, 2, 3, 4, 5, 6, 7, 8, 9, 15, 16, 17, 31, 32, 33, 63, 64, 65, 100}

// someLeaves: different ones, the first of no bytes, the second with a leaf's mark and the third with a node's.
func someLeaves(n int) []string {
	leaves := []string{"", "\x00", "\x01abcd"}
	for i := len(leaves); i < n; i++ {
		leaves = append(leaves, fmt.Sprint("leaf ", i))
	}
	return leaves[:n]
}

// refRoot comes to P4's root from below: full trees of equal height are joined as soon as there are two, and what is left at the end from the right.
func refRoot(leaves []string) string {
	if len(leaves) == 0 {
		return refSum("")
	}
	var roots []string
	join := func() {
		n := len(roots)
		roots = append(roots[:n-2], refSum("\x01"+roots[n-2]+roots[n-1]))
	}
	for i, leaf := range leaves {
		roots = append(roots, refSum("\x00"+leaf))
		for done := i + 1; done%2 == 0; done /= 2 {
			join()
		}
	}
	for len(roots) > 1 {
		join()
	}
	return roots[0]
}

// refPath is P4's path: k is found by trying each power of two.
func refPath(leaves []string, at int) []string {
	n := len(leaves)
	if n == 1 {
		return nil
	}
	k := 0
	for p := 1; p < n; p += p {
		k = p
	}
	if at < k {
		return append(refPath(leaves[:k], at), refRoot(leaves[k:]))
	}
	return append(refPath(leaves[k:], at-k), refRoot(leaves[:k]))
}

func TestRootOfKnownLeaves(t *testing.T) {
	leaves := []string{"", "a", "bc", "\x00", "\xff\xfe"}
	for i := 5; i < 40; i++ {
		leaves = append(leaves, string([]byte{byte(i), byte(i * 7)}))
	}
	for n, want := range map[int]string{
		0: "\x15\x05", 1: "\xb5\xc4", 2: "\xfe\xb9", 3: "\xd9\x68", 4: "\xd5\xf4", 5: "\x5a\x2c", 6: "\x4f\x86", 7: "\x65\xc8", 8: "\x66\x1c", 9: "\xdd\x98",
		15: "\xd7\xc9", 16: "\xd7\x4b", 17: "\xa0\x6a", 31: "\xa1\xc0", 32: "\xa2\x12", 33: "\x9b\xfd", 40: "\xaa\x6c",
	} {
		if r := seal.Root(leaves[:n]); r != want {
			t.Errorf("P4: Root of %d leaves = %q, want %q", n, r, want)
		}
	}
}

func TestRootOfFewLeaves(t *testing.T) {
	for _, none := range [][]string{nil, {}} {
		if r := seal.Root(none); r != refSum("") {
			t.Errorf("P4: Root(%#v) = %q, want Sum of nothing", none, r)
		}
	}
	if r := seal.Root([]string{""}); r != refSum("\x00") {
		t.Errorf("P4: Root of one leaf of no bytes = %q, want %q", r, refSum("\x00"))
	}
	if r, want := seal.Root([]string{"a", "b"}), refSum("\x01"+refSum("\x00a")+refSum("\x00b")); r != want {
		t.Errorf("P4: Root of two leaves = %q, want %q", r, want)
	}
}

func TestRootOfManyLeaves(t *testing.T) {
	for _, n := range append(slices.Clone(sizes), 4095, 4096, 4097, 10000) {
		if r, want := seal.Root(someLeaves(n)), refRoot(someLeaves(n)); r != want {
			t.Errorf("P4: Root of %d leaves = %q, want %q", n, r, want)
		}
	}
}

func TestPathOfEachLeaf(t *testing.T) {
	for _, n := range sizes {
		leaves := someLeaves(n)
		for at := range n {
			p, e := seal.Path(leaves, at)
			if want := refPath(leaves, at); e != api.OK || !slices.Equal(p, want) {
				t.Errorf("P4: Path of %d in %d leaves = %q, %d, want %q", at, n, p, e, want)
			}
		}
	}
}

func TestPathInAGreatTree(t *testing.T) {
	leaves := someLeaves(4097)
	for _, at := range []int{0, 1, 2047, 2048, 4095, 4096} {
		p, e := seal.Path(leaves, at)
		if want := refPath(leaves, at); e != api.OK || !slices.Equal(p, want) {
			t.Errorf("P4: Path of %d in 4097 leaves = %q, %d, want %q", at, p, e, want)
		}
	}
}

func TestPathOfNoLeaf(t *testing.T) {
	for _, n := range append([]int{0}, sizes...) {
		for _, at := range []int{-1 << 63, -n - 1, -1, n, n + 1, 2*n + 1, 1<<63 - 1} {
			if p, e := seal.Path(someLeaves(n), at); p != nil || e != api.ErrArg {
				t.Errorf("P4: Path of %d in %d leaves = %q, %d, want ErrArg", at, n, p, e)
			}
		}
	}
}

func TestClimbFromEachLeaf(t *testing.T) {
	for _, n := range sizes {
		leaves := someLeaves(n)
		want := refRoot(leaves)
		for at, leaf := range leaves {
			if r, e := seal.Climb(leaf, at, n, refPath(leaves, at)); r != want || e != api.OK {
				t.Errorf("P4: Climb from %d of %d leaves = %q, %d, want %q", at, n, r, e, want)
			}
		}
	}
}

// A leaf and a path that belong to no tree that is known lead to a root all the same.
func TestClimbLeadsWhereItIsTold(t *testing.T) {
	path := []string{"ab", "\x00\x00", "\xff\xff"}
	low := refSum("\x00leaf")
	for at, want := range []string{
		refSum("\x01" + refSum("\x01"+refSum("\x01"+low+"ab")+"\x00\x00") + "\xff\xff"),
		refSum("\x01" + refSum("\x01"+refSum("\x01ab"+low)+"\x00\x00") + "\xff\xff"),
		refSum("\x01" + refSum("\x01\x00\x00"+refSum("\x01"+low+"ab")) + "\xff\xff"),
		refSum("\x01" + refSum("\x01\x00\x00"+refSum("\x01ab"+low)) + "\xff\xff"),
		refSum("\x01\xff\xff" + refSum("\x01"+refSum("\x01"+low+"ab")+"\x00\x00")),
		refSum("\x01\xff\xff" + refSum("\x01"+refSum("\x01ab"+low)+"\x00\x00")),
	} {
		if r, e := seal.Climb("leaf", at, 7, path); r != want || e != api.OK {
			t.Errorf("P4: Climb from %d of 7 = %q, %d, want %q", at, r, e, want)
		}
	}
	want := refSum("\x01\x00\x00" + refSum("\x01ab"+low))
	if r, e := seal.Climb("leaf", 6, 7, path[:2]); r != want || e != api.OK {
		t.Errorf("P4: Climb from 6 of 7 = %q, %d, want %q", r, e, want)
	}
}

func TestClimbAtItsEdges(t *testing.T) {
	leaves := someLeaves(4097)
	for _, c := range []struct {
		at, many int
		want     api.Errno
	}{
		{0, 1, api.OK}, {0, 4096, api.OK}, {4095, 4096, api.OK}, {2048, 4096, api.OK}, {0, 4095, api.OK}, {4094, 4095, api.OK},
		{0, 4097, api.ErrArg}, {4096, 4097, api.ErrArg},
	} {
		path := refPath(leaves[:c.many], c.at)
		r, e := seal.Climb(leaves[c.at], c.at, c.many, path)
		if e != c.want || e == api.OK && r != refRoot(leaves[:c.many]) || e != api.OK && r != "" {
			t.Errorf("P4: Climb from %d of %d = %q, %d, want %d", c.at, c.many, r, e, c.want)
		}
	}
}

// Each of these numbers is refused, however long the path is.
func TestClimbAtWrongNumbers(t *testing.T) {
	for _, c := range []struct{ at, many int }{
		{0, 0}, {-1, 0}, {0, -1}, {-1, -1}, {-2, -1}, {0, -1 << 63}, {-1 << 63, -1 << 63},
		{-1, 1}, {1, 1}, {-1, 2}, {2, 2}, {3, 3}, {-1, 7}, {7, 7}, {8, 7}, {-1, 4096}, {4096, 4096}, {-1 << 63, 4096}, {1<<63 - 1, 4096},
		{0, 4097}, {4096, 4097}, {0, 8192}, {0, 1<<63 - 1}, {1<<63 - 2, 1<<63 - 1}, {1<<63 - 1, 1<<63 - 1},
	} {
		for n := range 70 {
			if r, e := seal.Climb("x", c.at, c.many, slices.Repeat([]string{"pp"}, n)); r != "" || e != api.ErrArg {
				t.Errorf("P4: Climb from %d of %d, %d texts = %q, %d, want ErrArg", c.at, c.many, n, r, e)
			}
		}
	}
}

func TestClimbAlongPathsOfWrongLength(t *testing.T) {
	for _, n := range sizes {
		for at := range n {
			right := len(refPath(someLeaves(n), at))
			for long := range 15 {
				r, e := seal.Climb("x", at, n, slices.Repeat([]string{"pp"}, long))
				if ok := long == right; ok != (e == api.OK) || !ok && (e != api.ErrArg || r != "") {
					t.Errorf("P4: Climb from %d of %d, %d texts = %q, %d; its path has %d", at, n, long, r, e, right)
				}
			}
		}
	}
}

func TestClimbAlongTextsThatAreNoSums(t *testing.T) {
	for _, n := range sizes {
		for at := range n {
			right := refPath(someLeaves(n), at)
			for i := range right {
				for _, wrong := range []string{"", "p", "ppp", "pppp", strings.Repeat("p", 258)} {
					path := slices.Clone(right)
					path[i] = wrong
					if r, e := seal.Climb("x", at, n, path); r != "" || e != api.ErrArg {
						t.Errorf("P4: Climb from %d of %d, %d bytes at %d = %q, %d, want ErrArg", at, n, len(wrong), i, r, e)
					}
				}
			}
		}
	}
}
