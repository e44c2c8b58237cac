package seal_test

import (
	"fmt"
	"strings"
	"testing"

	"signet/api"
)

// holds: h is sealed and its text read again if it is in bounds; if not, it is refused with ErrArg, and its text is no package.
func holds(t *testing.T, what string, h api.History, inBounds bool) {
	t.Helper()
	if inBounds {
		agrees(t, "P5: "+what, h, api.OK)
	} else {
		refuses(t, "P5: "+what, h, api.ErrArg)
	}
	laid(t, "P7: "+what, h, inBounds)
}

// wide is a history of several accounts, periods and entries, so that a thing out of bounds can stand first, last and between.
func wide() api.History {
	h := api.History{Accounts: []api.Account{{Name: "a"}, {Name: "b", Line: 1}, {Name: "c", Line: 3}}}
	for range 3 {
		h.Periods = append(h.Periods, period(entry("m", 0, 5, 1, -5), entry("", 2, 0), entry("n", 2, 1, 0, -1)))
	}
	return h
}

func TestNumberOfAccounts(t *testing.T) {
	for n, inBounds := range map[int]bool{0: false, 1: true, 2: true, 7: true, 8: true, 9: false, 10: false, 256: false, 257: false, 1000: false} {
		h := api.History{Accounts: []api.Account{}, Periods: []api.Period{period()}}
		for i := range n {
			h.Accounts = append(h.Accounts, api.Account{Name: fmt.Sprint(i)})
		}
		holds(t, fmt.Sprint(n, " accounts"), h, inBounds)
	}
	holds(t, "nil accounts", api.History{Periods: []api.Period{period()}}, false)
}

func TestBytesOfNames(t *testing.T) {
	for at := range wide().Accounts {
		for n, inBounds := range map[int]bool{0: false, 1: true, 2: true, 11: true, 12: true, 13: false, 255: false, 256: false, 257: false, 268: false} {
			h := wide()
			h.Accounts[at].Name = strings.Repeat("n", n)
			holds(t, fmt.Sprint("a name of ", n, " bytes at ", at), h, inBounds)
		}
		for _, name := range []string{"\x00", "\xff", " ", "äöü", "\xc3", "ääääää", "\x00\x00\x00\x00\x00\x00\x00\x00\x00\x00\x00\x00"} {
			h := wide()
			h.Accounts[at].Name = name
			holds(t, fmt.Sprintf("the name %q at %d", name, at), h, true)
		}
		h := wide()
		h.Accounts[at].Name = "äääääää" // runes do not count
		holds(t, "a name of 14 bytes", h, false)
	}
}

func TestNamesAreAllDifferent(t *testing.T) {
	long := strings.Repeat("n", api.MaxName)
	for i := range 3 {
		for j := range 3 {
			for _, name := range []string{"n", long, "\x00"} {
				h := wide()
				h.Accounts[i].Name, h.Accounts[j].Name = name, name
				holds(t, fmt.Sprintf("the name %q at %d and at %d", name, i, j), h, i == j)
			}
			if i != j {
				h := wide()
				h.Accounts[i].Name, h.Accounts[j].Name = long, long[1:]
				holds(t, "a name that is the beginning of another", h, true)
				h.Accounts[j].Name = long[1:] + "m"
				holds(t, "names that differ in their last byte", h, true)
				h.Accounts[i].Name, h.Accounts[j].Name = "x", "X"
				holds(t, "names that differ in their case", h, true)
				h.Accounts[i].Line, h.Accounts[j].Line, h.Accounts[j].Name = 0, 3, "x"
				holds(t, "one name in two lines", h, false)
			}
		}
	}
}

func TestLinesOfAccounts(t *testing.T) {
	for at := range wide().Accounts {
		for line, inBounds := range map[int]bool{-1: false, 0: true, 1: true, 2: true, 3: true, 4: false, 5: false, 255: false, 256: false, 257: false, -256: false, 1 << 32: false, most: false, least: false} {
			h := wide()
			h.Accounts[at].Line = line
			holds(t, fmt.Sprint("line ", line, " at ", at), h, inBounds)
		}
	}
}

func TestNumberOfPeriods(t *testing.T) {
	for n, inBounds := range map[int]bool{0: false, 1: true, 2: true, 5: true, 6: true, 7: false, 256: false, 257: false} {
		h := example()
		h.Periods = make([]api.Period, n)
		holds(t, fmt.Sprint(n, " periods without entries"), h, inBounds)
		for i := range h.Periods {
			h.Periods[i] = example().Periods[0]
		}
		holds(t, fmt.Sprint(n, " periods"), h, inBounds)
	}
	holds(t, "nil periods", api.History{Accounts: example().Accounts}, false)
}

func TestNumberOfEntries(t *testing.T) {
	for at := range wide().Periods {
		for n, inBounds := range map[int]bool{0: true, 1: true, 2: true, 11: true, 12: true, 13: false, 255: false, 256: false, 257: false} {
			h := wide()
			h.Periods[at].Entries = []api.Entry{}
			for i := range n {
				h.Periods[at].Entries = append(h.Periods[at].Entries, entry(fmt.Sprint(i), 0, i, 1, -i))
			}
			holds(t, fmt.Sprint(n, " entries at ", at), h, inBounds)
		}
	}
}

func TestBytesOfMemos(t *testing.T) {
	for at := range wide().Periods {
		for i := range wide().Periods[at].Entries {
			for n, inBounds := range map[int]bool{0: true, 1: true, 19: true, 20: true, 21: false, 255: false, 256: false, 257: false} {
				h := wide()
				h.Periods[at].Entries[i].Memo = strings.Repeat("\x80", n)
				holds(t, fmt.Sprint("a memo of ", n, " bytes at ", at, ", ", i), h, inBounds)
			}
		}
	}
}

func TestNumberOfPostings(t *testing.T) {
	for at := range wide().Periods {
		for i := range wide().Periods[at].Entries {
			for n, inBounds := range map[int]bool{0: false, 1: true, 2: true, 5: true, 6: true, 7: false, 255: false, 256: false, 257: false} {
				h := wide()
				h.Periods[at].Entries[i].Postings = make([]api.Posting, n)
				holds(t, fmt.Sprint(n, " postings at ", at, ", ", i), h, inBounds)
			}
			h := wide()
			h.Periods[at].Entries[i].Postings = nil
			holds(t, "nil postings", h, false)
		}
	}
}

// outOfBounds are changes each of which puts a history of three periods of three entries out of bounds, the later ones at its end.
var outOfBounds = []func(h *api.History){
	func(h *api.History) { h.Accounts = nil },
	func(h *api.History) { h.Accounts = append(h.Accounts, make([]api.Account, api.MaxAccounts)...) },
	func(h *api.History) { h.Accounts[2].Name = "" },
	func(h *api.History) { h.Accounts[2].Name = strings.Repeat("n", api.MaxName+1) },
	func(h *api.History) { h.Accounts[2].Name = h.Accounts[0].Name },
	func(h *api.History) { h.Accounts[2].Line = -1 },
	func(h *api.History) { h.Accounts[2].Line = api.Lines },
	func(h *api.History) { h.Periods = append(h.Periods, make([]api.Period, 4)...) },
	func(h *api.History) {
		h.Periods[2].Entries = append(h.Periods[2].Entries, make([]api.Entry, api.MaxEntries)...)
	},
	func(h *api.History) { h.Periods[2].Entries[2].Memo = strings.Repeat("m", api.MaxMemo+1) },
	func(h *api.History) { h.Periods[2].Entries[2].Postings = nil },
	func(h *api.History) { h.Periods[2].Entries[2].Postings = make([]api.Posting, api.MaxPostings+1) },
}

// What is out of bounds is told ahead of anything else that is wrong, wherever that stands.
func TestErrArgIsFirst(t *testing.T) {
	for _, wrong := range []struct {
		entries []api.Entry
		want    api.Errno
	}{
		{[]api.Entry{entry("", 3, 0)}, api.ErrAccount},
		{[]api.Entry{entry("", -1, 0)}, api.ErrAccount},
		{[]api.Entry{entry("", 0, 1)}, api.ErrBalance},
		{[]api.Entry{entry("", 0, most, 0, 1, 1, least)}, api.ErrOverflow},
		{[]api.Entry{entry("", 0, most, 2, -most), entry("", 1, most, 2, -most)}, api.ErrOverflow}, // a balance below
	} {
		for at := range 2 {
			h := wide()
			h.Periods[at].Entries = wrong.entries
			agrees(t, "P5: in bounds", h, wrong.want)
			for k, change := range outOfBounds {
				h := wide()
				h.Periods[at].Entries = wrong.entries
				change(&h)
				refuses(t, fmt.Sprintf("P5: out of bounds by %d, with %v at %d", k, wrong.entries, at), h, api.ErrArg)
			}
		}
	}
}
