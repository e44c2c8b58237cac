package sum_test

import (
	"slices"
	"strings"
	"testing"

	"signet/sum"
)

func leaves(n int) []string { return strings.Split("abcdefghijklmnopqrstuvwxyz"[:n], "") }

// standsAhead: whether the sum of each text is the root, or stands in a node's text ahead of it.
func standsAhead(texts []string, root string) bool {
	for i, text := range texts {
		isIn := func(node string) bool {
			return node[0] == 1 && (node[1:3] == sum.Of(text) || node[3:] == sum.Of(text))
		}
		if sum.Of(text) != root && !slices.ContainsFunc(texts[:i], isIn) {
			return false
		}
	}
	return true
}

func TestTextsOfARoot(t *testing.T) {
	for n := 1; n <= 26; n++ {
		texts := sum.OfRoot(leaves(n))
		if len(texts) != 2*n-1 || sum.Of(texts[0]) != sum.Root(leaves(n)) || !standsAhead(texts, sum.Root(leaves(n))) {
			t.Errorf("the texts of the root over %d leaves: %q", n, texts)
		}
		for _, leaf := range leaves(n) {
			if !slices.Contains(texts, "\x00"+leaf) {
				t.Errorf("the texts of the root over %d leaves are without %q", n, leaf)
			}
		}
	}
	if texts := sum.OfRoot(nil); !slices.Equal(texts, []string{""}) {
		t.Errorf("the texts of the root over nothing: %q", texts)
	}
}

func TestTextsOfAClimb(t *testing.T) {
	for n := 1; n <= 26; n++ {
		root := sum.Root(leaves(n))
		for at, leaf := range leaves(n) {
			path := sum.Trees().Path(leaves(n), at)
			texts := sum.OfClimb(leaf, at, n, path)
			if len(texts) != len(path)+1 || texts[len(path)] != "\x00"+leaf || sum.Of(texts[0]) != root || !standsAhead(texts, root) {
				t.Errorf("the texts from leaf %d of %d: %q", at, n, texts)
			}
		}
	}
}
