// Package book: histories that were closed, and what is made of them, as a package, a header or a statement has it: see DOC.md, P5 to P7.
package book

import (
	"maps"

	"signet/api"
	"signet/whole"
)

// Book is a history in which nothing is wrong. It holds on to the lists of the history that was closed, and writes into none of them.
type Book struct {
	Accounts []api.Account
	Periods  []Period
}

// Period is a period behind its last entry.
type Period struct {
	accounts []api.Account
	entries  []api.Entry
	balances map[int]whole.Number // by account; of one to which nothing ever came there is none
	totals   [api.Lines]whole.Number
}

// Close closes a history, period by period (P5).
func Close(h api.History) (Book, api.Errno) {
	if !inBounds(h) {
		return Book{}, api.ErrArg
	}
	b := Book{Accounts: h.Accounts}
	balances := map[int]whole.Number{}
	for _, p := range h.Periods {
		closed, errno := closePeriod(h.Accounts, p.Entries, balances)
		if errno != api.OK {
			return Book{}, errno
		}
		b.Periods = append(b.Periods, closed)
		balances = closed.balances
	}
	return b, api.OK
}

// closePeriod closes a period ahead of which the balances were these.
func closePeriod(accounts []api.Account, entries []api.Entry, ahead map[int]whole.Number) (Period, api.Errno) {
	p := Period{accounts: accounts, entries: entries, balances: maps.Clone(ahead)}
	for _, e := range entries {
		if errno := p.post(e.Postings); errno != api.OK {
			return Period{}, errno
		}
	}
	for _, total := range p.totals {
		if !total.Fits() {
			return Period{}, api.ErrOverflow
		}
	}
	return p, api.OK
}

// post brings an entry's amounts to their accounts and lines. What runs over is asked of the balances behind the entry alone: on the way through it they may.
func (p *Period) post(postings []api.Posting) api.Errno {
	var together whole.Number
	for _, one := range postings {
		if !within(one.Account, 0, len(p.accounts)-1) {
			return api.ErrAccount
		}
		together = together.Plus(int64(one.Amount))
	}
	if together != (whole.Number{}) {
		return api.ErrBalance
	}
	for _, one := range postings {
		line := p.accounts[one.Account].Line
		p.balances[one.Account] = p.balances[one.Account].Plus(int64(one.Amount))
		p.totals[line] = p.totals[line].Plus(int64(one.Amount))
	}
	for _, one := range postings {
		if !p.balances[one.Account].Fits() {
			return api.ErrOverflow
		}
	}
	return api.OK
}
