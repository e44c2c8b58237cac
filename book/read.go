package book

import (
	"signet/api"
	"signet/lay"
)

// Read reads a package into a book whose lists are its own (P7). There is but one history whose package a text can be; what the text has beside it is not looked at while it is read, but all at once, by laying the package down again.
func Read(text string) (Book, api.Errno) {
	b, errno := Close(readHistory(lay.Read(text)))
	if errno != api.OK || b.Text() != text {
		return Book{}, api.ErrForm
	}
	return b, api.OK
}

// History is the history that was closed, in the book's lists of accounts and entries.
func (b Book) History() api.History {
	h := api.History{Accounts: b.Accounts}
	for _, p := range b.Periods {
		h.Periods = append(h.Periods, api.Period{Entries: p.entries})
	}
	return h
}

func readHistory(r *lay.Reader) api.History {
	r.Text(len(packageMark))
	accounts := lay.List(r, r.One(), readAccount)
	periods := lay.List(r, r.One(), func(r *lay.Reader) api.Period { return readPeriod(r, len(accounts)) })
	return api.History{Accounts: accounts, Periods: periods}
}

func readAccount(r *lay.Reader) api.Account {
	name := r.Text(r.One())
	return api.Account{Name: name, Line: r.One()}
}

// readPeriod passes over balances and totals: they are what the entries make.
func readPeriod(r *lay.Reader, accounts int) api.Period {
	entries := lay.List(r, r.One(), readEntry)
	for range accounts + api.Lines {
		r.Eight()
	}
	return api.Period{Entries: entries}
}

func readEntry(r *lay.Reader) api.Entry {
	memo := r.Text(r.One())
	return api.Entry{Memo: memo, Postings: lay.List(r, r.One(), readPosting)}
}

func readPosting(r *lay.Reader) api.Posting {
	account := r.One()
	return api.Posting{Account: account, Amount: int(r.Eight())}
}
