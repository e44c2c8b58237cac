package book

import "signet/api"

// inBounds: see DOC.md, 'Words'. How many there are of a thing is asked ahead of the things, so that no long list is gone through.
func inBounds(h api.History) bool {
	return isChart(h.Accounts) && arePeriods(h.Periods)
}

func isChart(accounts []api.Account) bool {
	if !within(len(accounts), 1, api.MaxAccounts) {
		return false
	}
	for i, a := range accounts {
		if !within(len(a.Name), 1, api.MaxName) || !within(a.Line, 0, api.Lines-1) || isNamed(a.Name, accounts[:i]) {
			return false
		}
	}
	return true
}

// isNamed: whether one of these accounts has that name.
func isNamed(name string, accounts []api.Account) bool {
	for _, a := range accounts {
		if a.Name == name {
			return true
		}
	}
	return false
}

func arePeriods(periods []api.Period) bool {
	if !within(len(periods), 1, api.MaxPeriods) {
		return false
	}
	for _, p := range periods {
		if !areEntries(p.Entries) {
			return false
		}
	}
	return true
}

func areEntries(entries []api.Entry) bool {
	if len(entries) > api.MaxEntries {
		return false
	}
	for _, e := range entries {
		if len(e.Memo) > api.MaxMemo || !within(len(e.Postings), 1, api.MaxPostings) {
			return false
		}
	}
	return true
}

func within(n, least, most int) bool { return least <= n && n <= most }
