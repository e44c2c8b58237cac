package book

import (
	"slices"

	"signet/lay"
	"signet/sum"
)

const (
	HeaderMark = "HEAD"
	noHeader   = "\x00\x00" // stands in the first header for the sum of the one ahead
)

// Header is what a header tells. One that was read may tell anything, its mark too.
type Header struct {
	Mark      string
	Number    int
	Ahead     string // the sum of the header ahead
	Chart     string
	Entries   int
	Journal   string
	Statement string
	Balances  string
}

// Text is the header's text (P6).
func (h Header) Text() string {
	return h.Mark + lay.One(h.Number) + h.Ahead + h.Chart + lay.One(h.Entries) + h.Journal + h.Statement + h.Balances
}

// Sum is what the next header, or the head, has of it.
func (h Header) Sum() string { return sum.Of(h.Text()) }

// ReadHeader reads a header. Each of its parts has its length whatever it tells, so that each text of a header's length is read as one.
func ReadHeader(r *lay.Reader) Header {
	var h Header
	h.Mark = r.Text(len(HeaderMark))
	h.Number = r.One()
	h.Ahead = r.Text(sum.Size)
	h.Chart = r.Text(sum.Size)
	h.Entries = r.One()
	h.Journal = r.Text(sum.Size)
	h.Statement = r.Text(sum.Size)
	h.Balances = r.Text(sum.Size)
	return h
}

// HeaderTexts are the texts of headers, in order.
func HeaderTexts(headers []Header) []string {
	var texts []string
	for _, h := range headers {
		texts = append(texts, h.Text())
	}
	return texts
}

// Head is the sum of the last period's header.
func (b Book) Head() string {
	headers := b.Headers()
	return headers[len(headers)-1].Sum()
}

// Headers are the headers of the periods.
func (b Book) Headers() []Header {
	var headers []Header
	chart, ahead := sum.Of(b.Chart()), noHeader
	for i, p := range b.Periods {
		h := Header{
			Mark:      HeaderMark,
			Number:    i,
			Ahead:     ahead,
			Chart:     chart,
			Entries:   len(p.entries),
			Journal:   sum.Root(p.Entries()),
			Statement: sum.Root(p.Leaves()),
			Balances:  sum.Of(p.Balances()),
		}
		headers = append(headers, h)
		ahead = h.Sum()
	}
	return headers
}

// Summed are the texts of which the head is made, from the head down: the sum of each stands in one ahead of it, or is the head, and so does how many there are of a kind. So the first that is not the same in two books of one head has the same sum in both. What follows from the chart and the entries is left out: balances and statements are the same where these are.
func (b Book) Summed() []string {
	texts := HeaderTexts(b.Headers())
	slices.Reverse(texts)
	texts = append(texts, b.Chart())
	for _, p := range b.Periods {
		texts = append(texts, sum.OfRoot(p.Entries())...)
	}
	return texts
}
