package audit_test

import (
	"fmt"
	"math/rand"
	"testing"

	"signet/api"
	"signet/audit"
	"signet/seal"
)

// clashes: Clash answers of two packages, in either order, two texts that are not the same and have one sum.
func clashes(t *testing.T, what, p, q string) {
	t.Helper()
	for _, two := range [][2]string{{p, q}, {q, p}} {
		x, y, e := audit.Clash(two[0], two[1])
		isPair(t, "P11: "+what, x, y, e)
	}
}

// isPair: two texts that are not the same and have one sum were answered.
func isPair(t *testing.T, what, x, y string, e api.Errno) {
	t.Helper()
	if e != api.OK || x == y || seal.Sum(x) != seal.Sum(y) {
		t.Errorf("%s: %q, %q, %d", what, x, y, e)
	}
}

// noClash: Clash answers this error, and nothing else.
func noClash(t *testing.T, what, p, q string, want api.Errno) {
	t.Helper()
	if x, y, e := audit.Clash(p, q); x != "" || y != "" || e != want {
		t.Errorf("P11: %s: Clash = %q, %q, %d, want %d", what, x, y, e, want)
	}
}

// sealedAlike are the packages of two histories, which must have one head and not be the same.
func sealedAlike(t *testing.T, what string, g, h api.History) (p, q string) {
	t.Helper()
	p, s := sealed(t, g)
	q, u := sealed(t, h)
	if s != u || p == q {
		t.Fatalf("%s: the heads %q and %q of two packages that have to have one", what, s, u)
	}
	return p, q
}

// Of "az" and "bY" the first byte is 1 more, the second 33 less: wherever one stands for the other, the sum is the same.
const one, other = "az", "bY"

// journals has so many periods, and a journal of so many entries in each.
func journals(periods, entries int) api.History {
	h := api.History{Accounts: []api.Account{{Name: "a", Line: 0}, {Name: one, Line: 1}}}
	for range periods {
		var p api.Period
		for range entries {
			p.Entries = append(p.Entries, entry(one, 0, 256, 1, -256))
		}
		h.Periods = append(h.Periods, p)
	}
	return h
}

// otherChart has another chart, of the same sum.
func otherChart(h api.History) api.History {
	h.Accounts[1].Name = other
	return h
}

func TestClashOfCharts(t *testing.T) {
	for periods := 1; periods <= api.MaxPeriods; periods++ {
		p, q := sealedAlike(t, "P11: charts", journals(periods, 2), otherChart(journals(periods, 2)))
		clashes(t, "charts", p, q)
	}
}

// Each entry of each period by itself: earlier periods alone too.
func TestClashOfJournals(t *testing.T) {
	for periods := 1; periods <= api.MaxPeriods; periods++ {
		for entries := 1; entries <= api.MaxEntries; entries++ {
			for i := range periods {
				for j := range entries {
					what := fmt.Sprint("entry ", j, " of ", entries, " in period ", i, " of ", periods)
					g, memo := journals(periods, entries), journals(periods, entries)
					memo.Periods[i].Entries[j].Memo = other
					p, q := sealedAlike(t, "P11: a memo", g, memo)
					clashes(t, "a memo: "+what, p, q)
					amount := journals(periods, entries)
					g.Periods[i].Entries[j] = entry(one, 0, 100, 1, -100)
					amount.Periods[i].Entries[j] = entry(one, 0, 100+256-33, 1, -100-256+33) // in each balance and total too a byte is 1 more, the next one 33 less
					p, q = sealedAlike(t, "P11: an amount", g, amount)
					clashes(t, "an amount: "+what, p, q)
				}
			}
		}
	}
}

// Of two entries each has another sum, and the node over them, at each height, has not.
func TestClashOfNodes(t *testing.T) {
	for _, two := range [][2]int{{0, 1}, {2, 3}, {4, 5}, {0, 2}, {1, 3}, {0, 4}, {3, 5}} {
		for i := range 3 {
			g := journals(3, 6)
			root := seal.Root(entryTexts(g.Periods[i]))
			h := journals(3, 6)
			first, second := &h.Periods[i].Entries[two[0]].Memo, &h.Periods[i].Entries[two[1]].Memo
			for n := 1; ; n++ {
				*first, *second = number(n>>8, 2), number(n, 2)
				if seal.Root(entryTexts(h.Periods[i])) == root {
					break
				}
			}
			p, q := sealedAlike(t, "P11: two entries", g, h)
			clashes(t, fmt.Sprint("the entries ", two, " of period ", i), p, q)
		}
	}
}

// The chart and all journals at once.
func TestClashOfAll(t *testing.T) {
	g, h := journals(api.MaxPeriods, api.MaxEntries), otherChart(journals(api.MaxPeriods, api.MaxEntries))
	for i, p := range h.Periods {
		for j := range p.Entries {
			h.Periods[i].Entries[j].Memo = other
		}
	}
	p, q := sealedAlike(t, "P11: all", g, h)
	clashes(t, "all", p, q)
}

// byHead are the packages of histories by their heads.
func byHead(t *testing.T, histories []api.History) map[string][]string {
	all := map[string][]string{}
	for _, h := range histories {
		text, head := sealed(t, h)
		all[head] = append(all[head], text)
	}
	return all
}

// So many histories that some have one head, whatever they are: the numbers of periods, accounts and entries are others too.
func manyHistories() []api.History {
	var list []api.History
	r := rand.New(rand.NewSource(11))
	for range 4000 {
		list = append(list, randomHistory(r))
	}
	return list
}

func TestClashOfAnyTwo(t *testing.T) {
	pairs, lengths := 0, 0
	for _, texts := range byHead(t, manyHistories()) {
		for i, p := range texts {
			for _, q := range texts[:i] {
				if p == q {
					continue
				}
				pairs++
				clashes(t, "any two", p, q)
				g, _ := seal.Decode(p)
				h, _ := seal.Decode(q)
				if len(g.Periods) != len(h.Periods) {
					lengths++
				}
			}
		}
	}
	if pairs < 50 || lengths < 20 {
		t.Errorf("few packages have one head: %d, of other numbers of periods %d", pairs, lengths)
	}
}

// One history is the other's beginning.
func TestClashOfNumbersOfPeriods(t *testing.T) {
	r := rand.New(rand.NewSource(12))
	for periods := 1; periods < api.MaxPeriods; periods++ {
		p, head := sealed(t, journals(periods, 1))
		h, s := journals(periods+1, 1), ""
		q := ""
		for s != head {
			h.Periods[periods].Entries[0] = randomEntry(r, 2)
			q, s = sealed(t, h)
		}
		clashes(t, fmt.Sprint("periods: ", periods, " and one more"), p, q)
	}
}

func TestNoClash(t *testing.T) {
	texts := map[string]string{}
	for _, h := range append(someHistories(), journals(2, 2)) {
		text, head := sealed(t, h)
		texts[text] = head
	}
	for p, s := range texts {
		noClash(t, "one package twice", p, p, api.ErrNone)
		for q, u := range texts {
			if s != u {
				noClash(t, "two heads", p, q, api.ErrNone)
			}
		}
	}
	g, h := journals(3, 2), journals(3, 2)
	h.Periods[0].Entries[0].Memo = "ax"
	p, _ := sealed(t, g)
	q, _ := sealed(t, h)
	noClash(t, "a memo of another sum", p, q, api.ErrNone)
	noClash(t, "a beginning", exampleText, severalText, api.ErrNone)
}

// Ahead of one text twice, of two heads and of a clash.
func TestNoPackageToClash(t *testing.T) {
	p, q := sealedAlike(t, "P11: charts", journals(2, 2), otherChart(journals(2, 2)))
	bundle, _ := audit.Prove(p, 0, 0)
	for _, none := range []string{"", "SIGN", p[:len(p)-1], q[:len(q)-1], p + "\x00", p[1:], p + q, bundle, exampleText[:30], "\x00", exampleHead} {
		for _, text := range []string{p, q, exampleText, severalText} {
			noClash(t, "the first is no package", none, text, api.ErrForm)
			noClash(t, "the second is no package", text, none, api.ErrForm)
		}
		noClash(t, "none twice", none, none, api.ErrForm)
		noClash(t, "two that are none", none, "SIGN", api.ErrForm)
	}
	for at := range len(p) {
		noClash(t, "a prefix", p[:at], p[:at], api.ErrForm)
		noClash(t, "a prefix", p[:at], q, api.ErrForm)
		noClash(t, "a prefix", p, q[:at], api.ErrForm)
	}
}
