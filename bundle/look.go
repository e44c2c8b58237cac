package bundle

import (
	"slices"

	"signet/api"
	"signet/book"
	"signet/sum"
	"signet/whole"
)

// IsTrue: whether all that it tells goes with each other, and with the head (P10).
func (b Bundle) IsTrue() bool {
	for _, isSo := range []func() bool{
		b.isNumbered,
		b.isChained,
		b.leadsToHead,
		b.leadsToStatement,
		b.isTheTotal,
	} {
		if !isSo() {
			return false
		}
	}
	return true
}

// isNumbered: whether each header has the mark and the number of its period.
func (b Bundle) isNumbered() bool {
	for i, h := range b.headers {
		if h.Mark != book.HeaderMark || h.Number != b.Told.Period+i {
			return false
		}
	}
	return true
}

// isChained: whether each header but the first one has the sum of that ahead of it. That ahead of the first is not shown.
func (b Bundle) isChained() bool {
	for i, h := range b.headers[1:] {
		if h.Ahead != b.headers[i].Sum() {
			return false
		}
	}
	return true
}

func (b Bundle) leadsToHead() bool {
	return b.headers[len(b.headers)-1].Sum() == b.head
}

// leadsToStatement: whether the line stands in the statement of its period.
func (b Bundle) leadsToStatement() bool {
	root := sum.Trees().Climb(book.Leaf(b.Told), b.Told.Line, api.Lines, b.path)
	return root == b.headers[0].Statement
}

// isTheTotal: whether the drills are the total together.
func (b Bundle) isTheTotal() bool {
	var together whole.Number
	for _, d := range b.Told.Drills {
		together = together.Plus(int64(d.Amount))
	}
	return together == whole.Number{}.Plus(int64(b.Told.Total))
}

// Summed are the texts of which the head is made, as far as they are shown, from the head down: the sum of each stands in one ahead of it, or is the head, and so does how many there are of a kind. So of two bundles of one period and line that are true under one head the first that is not the same has the same sum in both.
func (b Bundle) Summed() []string {
	texts := book.HeaderTexts(b.headers)
	slices.Reverse(texts)
	texts = append(texts, sum.OfClimb(book.Leaf(b.Told), b.Told.Line, api.Lines, b.path)...)
	return append(texts, sum.OfRoot(book.DrillTexts(b.Told.Drills))...)
}
