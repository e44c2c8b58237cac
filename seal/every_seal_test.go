package seal_test

// P1 and P2 at Seal.

import (
	"fmt"
	"reflect"
	"slices"
	"strings"
	"testing"

	"signet/api"
	"signet/seal"
)

// copyOf shares no list with h; what stands behind the lists is there too.
func copyOf(h api.History) api.History {
	h.Accounts = copyAll(h.Accounts)
	h.Periods = copyAll(h.Periods)
	for i, p := range h.Periods[:cap(h.Periods)] {
		p.Entries = copyAll(p.Entries)
		for j, e := range p.Entries[:cap(p.Entries)] {
			p.Entries[:cap(p.Entries)][j].Postings = copyAll(e.Postings)
		}
		h.Periods[:cap(h.Periods)][i] = p
	}
	return h
}

func copyAll[E any](list []E) []E {
	if list == nil {
		return nil
	}
	whole := make([]E, cap(list))
	copy(whole, list[:cap(list)])
	return whole[:len(list)]
}

// allOf is a history with its lists as long as their memory.
func allOf(h api.History) api.History {
	h = copyOf(h)
	h.Accounts, h.Periods = h.Accounts[:cap(h.Accounts)], h.Periods[:cap(h.Periods)]
	for i, p := range h.Periods {
		h.Periods[i].Entries = p.Entries[:cap(p.Entries)]
		for j, e := range h.Periods[i].Entries {
			h.Periods[i].Entries[j].Postings = e.Postings[:cap(e.Postings)]
		}
	}
	return h
}

// behind has something behind each list of h, in the same memory.
func behind(h api.History) api.History {
	h = copyOf(h)
	for i, p := range h.Periods {
		for j, e := range p.Entries {
			p.Entries[j].Postings = append(e.Postings, api.Posting{Account: 1, Amount: 77}, api.Posting{Account: -1})[:len(e.Postings)]
		}
		h.Periods[i].Entries = append(p.Entries, entry("behind", 0, 77), api.Entry{})[:len(p.Entries)]
	}
	h.Accounts = append(h.Accounts, api.Account{Name: "behind", Line: 2}, api.Account{})[:len(h.Accounts)]
	h.Periods = append(h.Periods, period(entry("behind", 0, 77)), api.Period{})[:len(h.Periods)]
	return h
}

func someHistories() []api.History {
	list := []api.History{{}, example(), wide(), severalPeriods(), books(period(entry("", 0, 1))), books(period(entry("", 4, 1))), books(period(entry("", 0, most, 0, 1, 2, least))), books(period(entry("", 0, most, 2, -most), entry("", 1, 1, 3, -1)))}
	for _, change := range outOfBounds {
		h := wide()
		change(&h)
		list = append(list, h)
	}
	for i := range 40 {
		r := turns(1000 + i)
		list = append(list, r.history())
	}
	return list
}

func TestSealWritesIntoNothing(t *testing.T) {
	for i, plain := range someHistories() {
		h := behind(plain)
		before := allOf(h)
		text, head, errno := seal.Seal(h)
		if after := allOf(h); !reflect.DeepEqual(before, after) {
			t.Errorf("P2: history %d was written into: %+v, was %+v", i, after, before)
		}
		seals(t, fmt.Sprint("P2: what stands behind the lists of history ", i, " counts"), copyOf(plain), text, head, errno)
	}
}

func TestSealKeepsNothing(t *testing.T) {
	h := severalPeriods()
	text, head, _ := seal.Seal(h)
	kept, keptHead := strings.Clone(text), strings.Clone(head)
	h.Accounts[1].Name = "other"
	h.Periods[1].Entries[1].Memo = "other"
	h.Periods[1].Entries[1].Postings[0].Amount = 212
	if text != kept || head != keptHead {
		t.Errorf("P2: what Seal answered changed with the history: %q, %q", text, head)
	}
	agrees(t, "P2: a history that was changed", h, api.ErrBalance)
	h.Periods[1].Entries[1].Postings[0].Amount = -300
	agrees(t, "P2: a history that was changed", h, api.OK)
	seals(t, "P2: the first history again", severalPeriods(), kept, keptHead, api.OK)
}

// An order of a map would differ from call to call.
func TestSealIsTheSameEachTime(t *testing.T) {
	for i, h := range someHistories() {
		text, head, errno := seal.Seal(h)
		for range 30 {
			seals(t, fmt.Sprint("P2: history ", i, " again"), h, text, head, errno)
		}
	}
}

// Each balance stands at its own account's place.
func TestBalancesStandInOrder(t *testing.T) {
	for range 20 {
		var h api.History
		for i := range api.MaxAccounts {
			h.Accounts = append(h.Accounts, api.Account{Name: fmt.Sprint(9 - i), Line: i % api.Lines})
		}
		h.Periods = []api.Period{period(entry("", 7, 70, 6, 60, 5, 50, 4, 40, 0, -220), entry("", 3, 30, 2, 20, 1, 10, 0, -60)), period()}
		agrees(t, "P2, P6: eight balances", h, api.OK)
	}
}

func TestNilAndEmptyListsAreTheSame(t *testing.T) {
	for i, h := range []api.History{
		{}, {Accounts: example().Accounts}, {Periods: example().Periods},
		{Accounts: example().Accounts, Periods: []api.Period{{}, example().Periods[0], {}}},
		books(period(), period(api.Entry{Memo: "m"})),
	} {
		text, head, errno := seal.Seal(h)
		full := copyOf(h)
		if full.Accounts == nil {
			full.Accounts = []api.Account{}
		}
		if full.Periods == nil {
			full.Periods = []api.Period{}
		}
		for i, p := range full.Periods {
			if p.Entries == nil {
				full.Periods[i].Entries = make([]api.Entry, 0, 3)
			}
			for j, e := range p.Entries {
				if e.Postings == nil {
					p.Entries[j].Postings = []api.Posting{}
				}
			}
		}
		seals(t, fmt.Sprint("P2: history ", i, " with empty lists for nil ones"), full, text, head, errno)
	}
}

// One list in several places of a history is as good as several lists.
func TestListsThatShareMemory(t *testing.T) {
	h := example()
	h.Periods = slices.Repeat(h.Periods, api.MaxPeriods)
	h.Periods[0].Entries = slices.Repeat(h.Periods[0].Entries, api.MaxEntries)
	agrees(t, "P2: one list in several places", h, api.OK)
}

// A panic fails the test, and so does a call that does not end.
func TestSealEndsAtLongLists(t *testing.T) {
	long := strings.Repeat("long", 1<<20)
	for k, change := range []func(h *api.History){
		func(h *api.History) { h.Accounts = make([]api.Account, 1<<20) },
		func(h *api.History) { h.Accounts[1].Name = long },
		func(h *api.History) { h.Periods = make([]api.Period, 1<<20) },
		func(h *api.History) { h.Periods[0].Entries = make([]api.Entry, 1<<20) },
		func(h *api.History) { h.Periods[0].Entries[0].Memo = long },
		func(h *api.History) { h.Periods[0].Entries[0].Postings = make([]api.Posting, 1<<20) },
	} {
		h := example()
		change(&h)
		refuses(t, fmt.Sprint("P1: the change ", k), h, api.ErrArg)
	}
}

func TestSealEndsAtAllNumbers(t *testing.T) {
	for _, n := range edgeNumbers {
		for _, m := range edgeNumbers {
			h := books(period(entry("", 0, n, 1, m)))
			text, head, errno := refSeal(h)
			seals(t, fmt.Sprint("P1: the amounts ", n, ", ", m), h, text, head, errno)
			h = books(period(entry("", n, m, 0, 0)))
			text, head, errno = refSeal(h)
			seals(t, fmt.Sprint("P1: the account ", n, " and the amount ", m), h, text, head, errno)
			h = books(period(entry("", 0, n, 1, m, n, 1)))
			h.Accounts[0].Line = m
			if m < 0 || m >= api.Lines {
				refuses(t, fmt.Sprint("P1: the line ", m), h, api.ErrArg)
			}
		}
	}
}
