package audit_test

// P6, P9 and P10 told once more, on top of seal's Sum, Root and Path, which have tests of their own.

import (
	"encoding/binary"
	"math/big"
	"math/rand"
	"strings"

	"signet/api"
	"signet/seal"
)

const (
	most  = 1<<63 - 1
	least = -1 << 63
)

// number is a number in so many bytes.
func number(n, size int) string {
	return string(binary.BigEndian.AppendUint64(nil, uint64(n))[8-size:])
}

func drillText(d api.Drill) string {
	return number(d.Entry, 1) + number(d.Place, 1) + number(d.Account, 1) + number(d.Amount, 8)
}

func drillTexts(drills []api.Drill) []string {
	var texts []string
	for _, d := range drills {
		texts = append(texts, drillText(d))
	}
	return texts
}

// lineOf is what stands of a line in a history that can be sealed.
func lineOf(h api.History, period, line int) api.Line {
	l := api.Line{Period: period, Line: line}
	for i, e := range h.Periods[period].Entries {
		for j, p := range e.Postings {
			if h.Accounts[p.Account].Line == line {
				l.Drills = append(l.Drills, api.Drill{Entry: i, Place: j, Account: p.Account, Amount: p.Amount})
				l.Total += p.Amount
			}
		}
	}
	return l
}

func leafOf(l api.Line) string {
	return number(l.Line, 1) + number(l.Total, 8) + number(len(l.Drills), 2) + seal.Root(drillTexts(l.Drills))
}

func leavesOf(h api.History, period int) []string {
	var leaves []string
	for line := range api.Lines {
		leaves = append(leaves, leafOf(lineOf(h, period, line)))
	}
	return leaves
}

func entryTexts(p api.Period) []string {
	var texts []string
	for _, e := range p.Entries {
		text := number(len(e.Memo), 1) + e.Memo + number(len(e.Postings), 1)
		for _, p := range e.Postings {
			text += number(p.Account, 1) + number(p.Amount, 8)
		}
		texts = append(texts, text)
	}
	return texts
}

func chartText(accounts []api.Account) string {
	text := number(len(accounts), 1)
	for _, a := range accounts {
		text += number(len(a.Name), 1) + a.Name + number(a.Line, 1)
	}
	return text
}

// headersOf are the headers of a history that can be sealed.
func headersOf(h api.History) []header {
	var list []header
	balances := make([]int, len(h.Accounts))
	ahead := "\x00\x00"
	for i, p := range h.Periods {
		for _, e := range p.Entries {
			for _, one := range e.Postings {
				balances[one.Account] += one.Amount
			}
		}
		text := ""
		for _, n := range balances {
			text += number(n, 8)
		}
		one := header{"HEAD", i, ahead, seal.Sum(chartText(h.Accounts)), len(p.Entries), seal.Root(entryTexts(p)), seal.Root(leavesOf(h, i)), seal.Sum(text)}
		list = append(list, one)
		ahead = one.sum()
	}
	return list
}

// header is a header in its parts, which may be wrong ones.
type header struct {
	mark                         string
	number                       int
	ahead, chart                 string
	entries                      int
	journal, statement, balances string
}

func (h header) text() string {
	return h.mark + number(h.number, 1) + h.ahead + h.chart + number(h.entries, 1) + h.journal + h.statement + h.balances
}

func (h header) sum() string { return seal.Sum(h.text()) }

// shown is a bundle in its parts, which may be wrong ones.
type shown struct {
	line    api.Line
	headers []header
	path    []string
}

// showing is what Prove has to show.
func showing(h api.History, period, line int) shown {
	path, _ := seal.Path(leavesOf(h, period), line)
	return shown{lineOf(h, period, line), headersOf(h)[period:], path}
}

func (s shown) text() string {
	var t strings.Builder
	t.WriteString(number(s.line.Period, 1) + number(s.line.Line, 1) + number(len(s.headers), 1))
	for _, h := range s.headers {
		t.WriteString(h.text())
	}
	t.WriteString(number(s.line.Total, 8) + number(len(s.line.Drills), 2))
	t.WriteString(strings.Join(drillTexts(s.line.Drills), "") + strings.Join(s.path, ""))
	return t.String()
}

// changed is a copy that was changed.
func (s shown) changed(change func(s *shown)) shown {
	s.line.Drills = append([]api.Drill(nil), s.line.Drills...)
	s.headers = append([]header(nil), s.headers...)
	s.path = append([]string(nil), s.path...)
	change(&s)
	return s
}

// rooted has the statement's root to which its leaf and path lead.
func (s shown) rooted() shown {
	return s.changed(func(s *shown) {
		s.headers[0].statement, _ = seal.Climb(leafOf(s.line), s.line.Line, api.Lines, s.path)
	})
}

// chained has in the headers from the first one given on the sums of those ahead.
func (s shown) chained(first int) shown {
	return s.changed(func(s *shown) {
		for i := max(first, 1); i < len(s.headers); i++ {
			s.headers[i].ahead = s.headers[i-1].sum()
		}
	})
}

// head is that under which it goes.
func (s shown) head() string { return s.headers[len(s.headers)-1].sum() }

// form reads a bundle by P10's form, if it has that.
func form(text string) (shown, bool) {
	var s shown
	if len(text) < 3 {
		return s, false
	}
	many, at := int(text[2]), 3+16*int(text[2])
	if text[0] > 5 || text[1] > 3 || many < 1 || many > 6 || len(text) < at+10 {
		return s, false
	}
	drills := int(binary.BigEndian.Uint16([]byte(text[at+8:])))
	if drills > 72 || len(text) != at+10+11*drills+4 {
		return s, false
	}
	s.line = api.Line{Period: int(text[0]), Line: int(text[1]), Total: eight(text[at:])}
	for i := range many {
		h := text[3+16*i:]
		s.headers = append(s.headers, header{h[:4], int(h[4]), h[5:7], h[7:9], int(h[9]), h[10:12], h[12:14], h[14:16]})
	}
	for i := range drills {
		d := text[at+10+11*i:]
		s.line.Drills = append(s.line.Drills, api.Drill{Entry: int(d[0]), Place: int(d[1]), Account: int(d[2]), Amount: eight(d[3:])})
	}
	s.path = []string{text[len(text)-4 : len(text)-2], text[len(text)-2:]}
	return s, true
}

func eight(text string) int { return int(binary.BigEndian.Uint64([]byte(text[:8]))) }

// refLook is P10.
func refLook(text, head string) (api.Line, api.Errno) {
	s, ok := form(text)
	if !ok {
		return api.Line{}, api.ErrForm
	}
	together := new(big.Int).Neg(big.NewInt(int64(s.line.Total)))
	for _, d := range s.line.Drills {
		together.Add(together, big.NewInt(int64(d.Amount)))
	}
	ok = together.Sign() == 0 && s.head() == head && s.rooted().text() == text && s.chained(1).text() == text
	for i, h := range s.headers {
		ok = ok && h.mark == "HEAD" && h.number == s.line.Period+i
	}
	if !ok {
		return api.Line{}, api.ErrFalse
	}
	return s.line, api.OK
}

// randomHistory can be sealed: its entries are few, and its amounts small or of 63 bits.
func randomHistory(r *rand.Rand) api.History {
	var h api.History
	many := 1 + r.Intn(api.MaxAccounts)
	for i := range many {
		h.Accounts = append(h.Accounts, api.Account{Name: string([]byte{byte(i), byte(r.Intn(256))}), Line: r.Intn(api.Lines)})
	}
	for range 1 + r.Intn(api.MaxPeriods) {
		var p api.Period
		for range r.Intn(api.MaxEntries + 1) {
			p.Entries = append(p.Entries, randomEntry(r, many))
		}
		h.Periods = append(h.Periods, p)
	}
	return h
}

func randomEntry(r *rand.Rand, accounts int) api.Entry {
	e := api.Entry{Memo: strings.Repeat(string([]byte{byte(r.Intn(256))}), r.Intn(api.MaxMemo+1))}
	last := 0
	for range r.Intn(api.MaxPostings) {
		amount := r.Intn(2000) - 1000
		if r.Intn(4) == 0 {
			amount = r.Intn(1<<52) - 1<<51
		}
		last -= amount
		e.Postings = append(e.Postings, api.Posting{Account: r.Intn(accounts), Amount: amount})
	}
	e.Postings = append(e.Postings, api.Posting{Account: r.Intn(accounts), Amount: last})
	return e
}

// entry has accounts and amounts by turns.
func entry(memo string, pairs ...int) api.Entry {
	e := api.Entry{Memo: memo}
	for i := 0; i < len(pairs); i += 2 {
		e.Postings = append(e.Postings, api.Posting{Account: pairs[i], Amount: pairs[i+1]})
	}
	return e
}

func period(entries ...api.Entry) api.Period { return api.Period{Entries: entries} }

// example is the history of the document's example.
func example() api.History {
	return api.History{
		Accounts: []api.Account{{Name: "a", Line: 0}, {Name: "b", Line: 1}},
		Periods:  []api.Period{period(entry("m", 0, 5, 1, -5))},
	}
}

// full has as much of everything as there may be: in its last period all 72 postings came to one line, in that ahead each line has some.
func full() api.History {
	var h api.History
	for i := range api.MaxAccounts {
		h.Accounts = append(h.Accounts, api.Account{Name: strings.Repeat(string(rune('a'+i)), api.MaxName), Line: i % api.Lines})
	}
	all := entry(strings.Repeat("m", api.MaxMemo), 0, 5, 1, -6, 2, 7, 3, -8, 6, 9, 7, -7)
	one := entry(strings.Repeat("n", api.MaxMemo), 0, most, 4, -most, 0, -1, 4, 1, 0, -most, 4, most)
	for i := range api.MaxPeriods {
		e := all
		if i == api.MaxPeriods-1 {
			e = one
		}
		var p api.Period
		for range api.MaxEntries {
			p.Entries = append(p.Entries, e)
		}
		h.Periods = append(h.Periods, p)
	}
	return h
}

// someHistories can all be sealed.
func someHistories() []api.History {
	list := []api.History{example(), several(), full(), {Accounts: []api.Account{{Name: "alone", Line: 3}}, Periods: make([]api.Period, api.MaxPeriods)}}
	r := rand.New(rand.NewSource(4))
	for range 40 {
		list = append(list, randomHistory(r))
	}
	return list
}
