// Package bundle: what is shown of a line of a book to whoever has the head alone: see DOC.md, P9 and P10.
package bundle

import (
	"strings"

	"signet/api"
	"signet/book"
	"signet/lay"
	"signet/sum"
)

const (
	maxDrills = api.MaxEntries * api.MaxPostings
	steps     = 2 // of the path of a leaf among api.Lines
)

// Bundle is a line, and what leads from it to the head.
type Bundle struct {
	Told    api.Line
	headers []book.Header // from that of the line's period to the last one
	path    []string
	head    string // under which it is shown: no part of its text
}

// Of shows a line of a book, which there must be.
func Of(b book.Book, period, line int) Bundle {
	p := b.Periods[period]
	told := p.Line(line)
	told.Period = period
	return Bundle{
		Told:    told,
		headers: b.Headers()[period:],
		path:    sum.Trees().Path(p.Leaves(), line),
		head:    b.Head(),
	}
}

// Text is the bundle's text (P9).
func (b Bundle) Text() string {
	var t strings.Builder
	t.WriteString(lay.One(b.Told.Period) + lay.One(b.Told.Line) + lay.One(len(b.headers)))
	for _, texts := range [][]string{
		book.HeaderTexts(b.headers),
		{book.Total(b.Told)},
		book.DrillTexts(b.Told.Drills),
		b.path,
	} {
		t.WriteString(strings.Join(texts, ""))
	}
	return t.String()
}

// Read reads a bundle that is shown under a head.
func Read(text, head string) (Bundle, api.Errno) {
	r := lay.Read(text)
	b := readBundle(r)
	if !b.isInBounds() || !r.IsThrough() {
		return Bundle{}, api.ErrForm
	}
	b.head = head
	return b, api.OK
}

func readBundle(r *lay.Reader) Bundle {
	var b Bundle
	b.Told.Period = r.One()
	b.Told.Line = r.One()
	b.headers = lay.List(r, r.One(), book.ReadHeader)
	b.Told.Total = int(r.Eight())
	b.Told.Drills = lay.List(r, r.Two(), book.ReadDrill)
	b.path = lay.List(r, steps, func(r *lay.Reader) string { return r.Text(sum.Size) })
	return b
}

func (b Bundle) isInBounds() bool {
	many := len(b.headers)
	return b.Told.Period < api.MaxPeriods && b.Told.Line < api.Lines && many >= 1 && many <= api.MaxPeriods && len(b.Told.Drills) <= maxDrills
}
