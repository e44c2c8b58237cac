package seal_test

import (
	"fmt"
	"testing"

	"signet/api"
)

// books are entries of one period or more, in four accounts: two of line 0, one of line 1, one of line 3.
func books(periods ...api.Period) api.History {
	return api.History{
		Accounts: []api.Account{{Name: "a"}, {Name: "b"}, {Name: "c", Line: 1}, {Name: "d", Line: 3}},
		Periods:  periods,
	}
}

type wrongCase struct {
	what    string
	periods []api.Period
	want    api.Errno
}

// tellAll holds each case against Seal, Decode and Extend, as it is and behind a period in which nothing is wrong.
func tellAll(t *testing.T, cases []wrongCase) {
	t.Helper()
	for _, c := range cases {
		tell(t, c.what, books(c.periods...), c.want)
		tell(t, "behind a period: "+c.what, books(append([]api.Period{period(entry("", 0, 0, 3, 0))}, c.periods...)...), c.want)
	}
}

func tell(t *testing.T, what string, h api.History, want api.Errno) {
	t.Helper()
	agrees(t, "P5: "+what, h, want)
	laid(t, "P7: "+what, h, want == api.OK)
	extendsToAll(t, "P7: "+what, h)
}

func one(entries ...api.Entry) []api.Period { return []api.Period{period(entries...)} }

func TestTheExamplesRefusals(t *testing.T) {
	for _, c := range []struct {
		entries []api.Entry
		want    api.Errno
	}{
		{[]api.Entry{entry("m", 0, 5, 1, -4)}, api.ErrBalance},
		{[]api.Entry{entry("m", 0, 5, 2, -5)}, api.ErrAccount},
		{[]api.Entry{entry("m", 0, most, 1, -most), entry("m", 0, most, 1, -most)}, api.ErrOverflow},
	} {
		h := example()
		h.Periods[0].Entries = c.entries
		refuses(t, "P5: the example's refusal", h, c.want)
	}
}

func TestAccountsThatAreNotInTheChart(t *testing.T) {
	for n := 1; n <= api.MaxAccounts; n++ {
		var h api.History
		for i := range n {
			h.Accounts = append(h.Accounts, api.Account{Name: fmt.Sprint(i), Line: i % api.Lines})
		}
		for _, account := range []int{least, -1 << 32, -256, -2, -1, n, n + 1, 8, 255, 256, 1 << 32, most} {
			for place := range api.MaxPostings {
				e := entry("", 0, 0, 0, 0, 0, 0, 0, 0, 0, 0, 0, 0)
				e.Postings[place].Account = account
				h.Periods = []api.Period{period(), period(entry("", 0, 0), e)}
				refuses(t, fmt.Sprint("P5: account ", account, " of ", n, " at place ", place), h, api.ErrAccount)
			}
		}
		for account := range n {
			h.Periods = []api.Period{period(entry("", account, 7, 0, -7))}
			agrees(t, fmt.Sprint("P5: account ", account, " of ", n), h, api.OK)
		}
	}
}

func TestEntriesThatAreNotBalanced(t *testing.T) {
	tellAll(t, []wrongCase{
		{"one posting of 0", one(entry("", 0, 0)), api.OK},
		{"one posting of 1", one(entry("", 0, 1)), api.ErrBalance},
		{"one posting of -1", one(entry("", 2, -1)), api.ErrBalance},
		{"one too much", one(entry("", 0, 5, 1, -4)), api.ErrBalance},
		{"one too little", one(entry("", 0, 5, 1, -6)), api.ErrBalance},
		{"six postings", one(entry("", 0, 1, 1, 2, 2, 3, 3, 4, 0, 5, 1, -15)), api.OK},
		{"six postings, and 1", one(entry("", 0, 1, 1, 2, 2, 3, 3, 4, 0, 5, 1, -14)), api.ErrBalance},
		{"balanced with the next one alone", one(entry("", 0, 1), entry("", 0, -1)), api.ErrBalance},
		{"the later one", one(entry("", 0, 1, 1, -1), entry("", 0, 2, 1, -1)), api.ErrBalance},
		{"the later period", []api.Period{period(entry("", 0, 1, 1, -1)), period(entry("", 0, 1, 1, 1))}, api.ErrBalance},
		{"twice the least", one(entry("", 0, least, 0, least)), api.ErrBalance},
		{"twice the least in two accounts", one(entry("", 0, least, 2, least)), api.ErrBalance},
		{"four times the least", one(entry("", 0, least, 1, least, 2, least, 3, least)), api.ErrBalance},
		{"twice the most, and 2", one(entry("", 0, most, 1, most, 2, 2)), api.ErrBalance},
		{"four times 2^62", one(entry("", 0, 1<<62, 1, 1<<62, 2, 1<<62, 3, 1<<62)), api.ErrBalance},
		{"the least and the most", one(entry("", 0, least, 0, most)), api.ErrBalance},
		{"the least, the most and 1", one(entry("", 0, least, 0, most, 0, 1)), api.OK},
		{"beyond 64 bits and back", one(entry("", 0, most, 0, most, 0, -most, 0, -most)), api.OK},
		{"beyond 64 bits and nearly back", one(entry("", 0, most, 0, most, 0, -most, 0, least)), api.ErrBalance},
		{"below 64 bits and back", one(entry("", 0, least, 0, least, 0, most, 0, most, 0, 2)), api.OK},
	})
}

func TestBalancesThatRunOver(t *testing.T) {
	up, down := entry("", 0, most, 2, -most), entry("", 0, -most, 2, most)
	tellAll(t, []wrongCase{
		{"at the upper end", one(up), api.OK},
		{"at the upper end, and nothing", one(up, entry("", 0, 0, 2, 0)), api.OK},
		{"one above", one(up, entry("", 0, 1, 3, -1)), api.ErrOverflow},
		{"twice", one(up, up), api.ErrOverflow},
		{"one above, and back", one(up, entry("", 0, 1, 3, -1), entry("", 0, -1, 3, 1)), api.ErrOverflow},
		{"one above in the next period", []api.Period{period(up), period(entry("", 3, -1, 0, 1))}, api.ErrOverflow},
		{"up, down, up", one(up, down, up), api.OK},
		{"down, up, down", one(down, up, down), api.OK},
		{"at the lower end", one(down, entry("", 0, -1, 3, 1)), api.OK},
		{"one below", one(down, entry("", 0, -2, 3, 2)), api.ErrOverflow},
		{"one below, and back", one(down, entry("", 0, -2, 3, 2), entry("", 0, 2, 3, -2)), api.ErrOverflow},
		{"one below three periods later", []api.Period{period(down), period(), period(), period(entry("", 0, -2, 3, 2))}, api.ErrOverflow},
		{"over within an entry but not behind it", one(entry("", 0, most, 0, most, 0, -most, 2, -most)), api.OK},
		{"over within an entry but not behind it, at the end", one(up, entry("", 0, 5, 3, -5, 0, -5, 3, 5)), api.OK},
		{"below within an entry but not behind it", one(entry("", 0, least, 0, least, 0, most, 0, 1, 3, most, 1, 1)), api.OK},
		{"over behind one entry", one(entry("", 0, most, 2, least, 0, 1)), api.ErrOverflow},
		{"below behind one entry", one(entry("", 0, least, 2, most, 0, -1, 3, 2)), api.ErrOverflow},
		{"the least of one posting", one(entry("", 0, least, 2, most, 3, 1)), api.OK},
		{"over by a whole turn", one(entry("", 0, most, 0, most, 0, 2, 2, least, 3, least)), api.ErrOverflow},
		{"below by a whole turn", one(entry("", 0, least, 0, least, 2, most, 3, most, 1, 2)), api.ErrOverflow},
		{"the second account of the entry", one(entry("", 2, most, 0, -most), entry("", 3, -1, 2, 1)), api.ErrOverflow},
		{"the first posting's account", one(up, entry("", 0, 1, 1, -1, 3, 0)), api.ErrOverflow},
		{"the last account", one(entry("", 3, most, 2, -most), entry("", 0, -1, 3, 1)), api.ErrOverflow},
	})
}

func TestTotalsThatRunOver(t *testing.T) {
	up := entry("", 0, most, 2, -most)
	second := entry("", 1, most, 3, -most)
	tellAll(t, []wrongCase{
		{"a total at its upper end", one(entry("", 0, most-1, 2, -most+1), entry("", 1, 1, 3, -1)), api.OK},
		{"a total one above", one(up, entry("", 1, 1, 3, -1)), api.ErrOverflow},
		{"a total of twice the most", one(up, second), api.ErrOverflow},
		{"a total in two periods", []api.Period{period(up), period(second)}, api.OK},
		{"a total in the second period", []api.Period{period(up), period(entry("", 1, most, 3, -most), entry("", 1, -1, 3, 1), entry("", 1, 1, 0, 0, 3, -1))}, api.OK},
		{"a total that came back within the period", one(up, second, entry("", 1, -1, 3, 1), entry("", 0, -most, 2, most)), api.OK},
		{"a total that comes back in the next period", []api.Period{period(up, second), period(entry("", 1, -most, 3, most))}, api.ErrOverflow},
		{"a total at its lower end", one(entry("", 0, -most, 2, most), entry("", 1, -1, 3, 1)), api.OK},
		{"a total one below", one(entry("", 0, -most, 2, most), entry("", 1, -2, 3, 2)), api.ErrOverflow},
		{"a total that wraps to 0", one(entry("", 0, least, 2, most, 3, 1), entry("", 1, least, 2, 0, 3, most, 2, -1, 2, 2)), api.ErrOverflow},
	})
	spread := api.History{Accounts: []api.Account{{Name: "a", Line: 3}, {Name: "b", Line: 3}, {Name: "c", Line: 0}, {Name: "d", Line: 1}}}
	spread.Periods = one(entry("", 0, most, 2, -most), entry("", 1, 1, 3, -1))
	agrees(t, "P5: the last line's total", spread, api.ErrOverflow)
	spread.Accounts[1].Line = 2
	agrees(t, "P5: the last line's total, in bounds", spread, api.OK)
	spread.Accounts[2].Line, spread.Accounts[3].Line = 0, 0
	spread.Periods = one(entry("", 0, most, 2, -most), entry("", 1, 2, 3, -2))
	agrees(t, "P5: the first line's total", spread, api.ErrOverflow)
}

// Of several wrong things the first is told, period by period, entry by entry, and in one entry in the order of P5.
func TestWhichWrongThingIsTold(t *testing.T) {
	up := entry("", 0, most, 2, -most)
	account, balance := entry("", 4, 0), entry("", 0, 1)
	over := entry("", 0, 1, 3, -1) // behind up
	tellAll(t, []wrongCase{
		{"account ahead of balance", one(account, balance), api.ErrAccount},
		{"balance ahead of account", one(balance, account), api.ErrBalance},
		{"account and balance in one entry", one(entry("", 0, 1, 4, 0)), api.ErrAccount},
		{"account last in an entry that runs over", one(up, entry("", 0, 1, 3, -1, -1, 0)), api.ErrAccount},
		{"balance in an entry that runs over", one(up, entry("", 0, 1)), api.ErrBalance},
		{"account, balance and overflow in one entry", one(up, entry("", 0, 2, 9, -1)), api.ErrAccount},
		{"overflow ahead of account", one(up, over, account), api.ErrOverflow},
		{"overflow ahead of balance", one(up, over, balance), api.ErrOverflow},
		{"account ahead of overflow", one(up, account, over), api.ErrAccount},
		{"balance ahead of overflow", one(up, balance, over), api.ErrBalance},
		{"account in an earlier period", []api.Period{period(account), period(balance)}, api.ErrAccount},
		{"balance in an earlier period", []api.Period{period(balance), period(account)}, api.ErrBalance},
		{"overflow in an earlier period", []api.Period{period(up, over), period(account)}, api.ErrOverflow},
		{"a total ahead of the next period's account", []api.Period{period(up, entry("", 1, 1, 3, -1)), period(account)}, api.ErrOverflow},
		{"a total ahead of the next period's balance", []api.Period{period(up, entry("", 1, 1, 3, -1)), period(balance)}, api.ErrOverflow},
		{"a total behind the period's last entry: account", one(up, entry("", 1, 1, 3, -1), account), api.ErrAccount},
		{"a total behind the period's last entry: balance", one(up, entry("", 1, 1, 3, -1), balance), api.ErrBalance},
	})
}
