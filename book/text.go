package book

import (
	"strings"

	"signet/api"
	"signet/lay"
)

const packageMark = "SIGN"

// Text is the package (P6).
func (b Book) Text() string {
	var t strings.Builder
	t.WriteString(packageMark + b.Chart() + lay.One(len(b.Periods)))
	for _, p := range b.Periods {
		t.WriteString(p.Text())
	}
	return t.String()
}

// Chart is the text of the chart.
func (b Book) Chart() string {
	var t strings.Builder
	t.WriteString(lay.One(len(b.Accounts)))
	for _, a := range b.Accounts {
		t.WriteString(lay.One(len(a.Name)) + a.Name + lay.One(a.Line))
	}
	return t.String()
}

// Text is the period's text in the package.
func (p Period) Text() string {
	var t strings.Builder
	for _, part := range []func(Period) string{
		Period.many,
		Period.journal,
		Period.Balances,
		Period.statement,
	} {
		t.WriteString(part(p))
	}
	return t.String()
}

func (p Period) many() string { return lay.One(len(p.entries)) }

func (p Period) journal() string { return strings.Join(p.Entries(), "") }

// Entries are the texts of the entries, which are the journal's leaves.
func (p Period) Entries() []string {
	var texts []string
	for _, e := range p.entries {
		texts = append(texts, entryText(e))
	}
	return texts
}

// Balances is the text of the balances.
func (p Period) Balances() string {
	var t strings.Builder
	for account := range p.accounts {
		t.WriteString(lay.Eight(p.balances[account].Int64()))
	}
	return t.String()
}

func (p Period) statement() string {
	var t strings.Builder
	for _, total := range p.totals {
		t.WriteString(lay.Eight(total.Int64()))
	}
	return t.String()
}

func entryText(e api.Entry) string {
	var t strings.Builder
	t.WriteString(lay.One(len(e.Memo)) + e.Memo + lay.One(len(e.Postings)))
	for _, one := range e.Postings {
		t.WriteString(lay.One(one.Account) + lay.Eight(int64(one.Amount)))
	}
	return t.String()
}
