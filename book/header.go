package book

import (
	"signet/api"
	"signet/lay"
	"signet/sum"
)

const (
	headerMark = "HEAD"
	noHeader   = "\x00\x00" // stands in the first header for the sum of the one ahead
)

// Head is the sum of the last period's header.
func (b Book) Head() string {
	headers := b.Headers()
	return sum.Of(headers[len(headers)-1])
}

// Headers are the headers of the periods (P6).
func (b Book) Headers() []string {
	var headers []string
	chart, ahead := sum.Of(b.Chart()), noHeader
	for i, p := range b.Periods {
		header := headerMark + lay.One(i) + ahead + chart + p.seals()
		headers = append(headers, header)
		ahead = sum.Of(header)
	}
	return headers
}

// seals is what a period brings to its header out of itself.
func (p Period) seals() string {
	return p.many() + sum.Root(p.Entries()) + sum.Root(p.Leaves()) + sum.Of(p.Balances())
}

// Leaves are the leaves of the statement, one for each line.
func (p Period) Leaves() []string {
	var leaves []string
	for line, total := range p.totals {
		leaves = append(leaves, leafText(line, total.Int64(), p.Drills(line)))
	}
	return leaves
}

// Drills are the drills of a line.
func (p Period) Drills(line int) []api.Drill {
	var drills []api.Drill
	for entry, e := range p.entries {
		for place, one := range e.Postings {
			if p.accounts[one.Account].Line == line {
				drills = append(drills, api.Drill{Entry: entry, Place: place, Account: one.Account, Amount: one.Amount})
			}
		}
	}
	return drills
}

func leafText(line int, total int64, drills []api.Drill) string {
	var texts []string
	for _, d := range drills {
		texts = append(texts, drillText(d))
	}
	return lay.One(line) + lay.Eight(total) + lay.Two(len(drills)) + sum.Root(texts)
}

func drillText(d api.Drill) string {
	return lay.One(d.Entry) + lay.One(d.Place) + lay.One(d.Account) + lay.Eight(int64(d.Amount))
}
