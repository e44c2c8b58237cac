package tree

import (
	"slices"
	"strings"
	"testing"
)

// plain builds trees that can be read: a leaf is its text, a node is told with brackets.
func plain() Builder {
	return Builder{
		Leaf: func(text string) string { return text },
		Node: func(left, right string) string { return "(" + left + right + ")" },
	}
}

func letters(n int) []string { return strings.Split("abcdefghijklmnopqrstuvwxyz"[:n], "") }

func TestRootHasTheShapeOfP4(t *testing.T) {
	for n, want := range map[int]string{
		1:  "a",
		2:  "(ab)",
		3:  "((ab)c)",
		4:  "((ab)(cd))",
		5:  "(((ab)(cd))e)",
		6:  "(((ab)(cd))(ef))",
		7:  "(((ab)(cd))((ef)g))",
		8:  "(((ab)(cd))((ef)(gh)))",
		9:  "((((ab)(cd))((ef)(gh)))i)",
		11: "((((ab)(cd))((ef)(gh)))((ij)k))",
	} {
		if r := plain().Root(letters(n)); r != want {
			t.Errorf("P4: Root of %d leaves = %s, want %s", n, r, want)
		}
	}
}

func TestPathIsFromTheLowestToTheHighest(t *testing.T) {
	for _, c := range []struct {
		n, at int
		want  string
	}{
		{1, 0, ""},
		{2, 0, "b"}, {2, 1, "a"},
		{3, 0, "b c"}, {3, 1, "a c"}, {3, 2, "(ab)"},
		{4, 0, "b (cd)"}, {4, 3, "c (ab)"},
		{7, 0, "b (cd) ((ef)g)"}, {7, 3, "c (ab) ((ef)g)"},
		{7, 4, "f g ((ab)(cd))"}, {7, 5, "e g ((ab)(cd))"}, {7, 6, "(ef) ((ab)(cd))"},
	} {
		if p := strings.Join(plain().Path(letters(c.n), c.at), " "); p != c.want {
			t.Errorf("P4: Path of %d in %d leaves = %q, want %q", c.at, c.n, p, c.want)
		}
	}
}

func TestClimbComesToTheRoot(t *testing.T) {
	for n := 1; n <= 26; n++ {
		leaves := letters(n)
		root := plain().Root(leaves)
		for at, leaf := range leaves {
			path := plain().Path(leaves, at)
			if d := Depth(at, n); d != len(path) {
				t.Errorf("P4: Depth(%d, %d) = %d, want %d", at, n, d, len(path))
			}
			if r := plain().Climb(leaf, at, n, path); r != root {
				t.Errorf("P4: Climb from %d of %d = %s, want %s", at, n, r, root)
			}
		}
	}
}

func TestSplitIsTheGreatestPowerOfTwoBelow(t *testing.T) {
	for n, want := range map[int]int{2: 1, 3: 2, 4: 2, 5: 4, 8: 4, 9: 8, 4095: 2048, 4096: 2048, 4097: 4096, 1<<63 - 1: 1 << 62} {
		if k := split(n); k != want {
			t.Errorf("P4: split(%d) = %d, want %d", n, k, want)
		}
	}
}

// Each leaf and each node is made once, in the order of the leaves: whoever hands in functions that take notes leans on it.
func TestEachLeafAndNodeIsMadeOnce(t *testing.T) {
	var made []string
	b := Builder{
		Leaf: func(text string) string { made = append(made, text); return text },
		Node: func(left, right string) string { made = append(made, left+right); return left + right },
	}
	b.Root(letters(5))
	if want := []string{"a", "b", "ab", "c", "d", "cd", "abcd", "e", "abcde"}; !slices.Equal(made, want) {
		t.Errorf("made %q, want %q", made, want)
	}
}
