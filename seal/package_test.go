package seal_test

import (
	"encoding/hex"
	"fmt"
	"strings"
	"testing"

	"signet/api"
	"signet/seal"
)

// fromHex leaves out what stands between the digits, so that a text can be told in its parts.
func fromHex(t *testing.T, digits string) string {
	t.Helper()
	b, err := hex.DecodeString(strings.Join(strings.Fields(digits), ""))
	if err != nil {
		t.Fatal(err)
	}
	return string(b)
}

func TestPackageOfTheExample(t *testing.T) {
	text := fromHex(t, `5349474e 02 01 61 00 01 62 01 01 01
		01 6d 02 00 0000000000000005 01 fffffffffffffffb
		0000000000000005 fffffffffffffffb
		0000000000000005 fffffffffffffffb 0000000000000000 0000000000000000`)
	header := fromHex(t, "48454144 00 0000 72db 01 e203 787d cf1f")
	if head := fromHex(t, "de52"); refSum(header) != head {
		t.Fatalf("the sum of the example's header is %q, the test has %q", refSum(header), head)
	}
	seals(t, "P6: the example", example(), text, "\xde\x52", api.OK)
}

// Four periods, the first and the last without entries; names and memos of any bytes; a line without drills and one with two accounts; balances and totals below 0 and at both ends.
func severalPeriods() api.History {
	return api.History{
		Accounts: []api.Account{{Name: "\x00", Line: 3}, {Name: "cash\xff", Line: 0}, {Name: "owed by us!!", Line: 1}, {Name: "ä", Line: 3}},
		Periods: []api.Period{
			period(),
			period(entry("", 1, most, 2, -most), entry("\x00\xffmemo of 20 bytes..", 0, -300, 3, 256, 1, 0, 0, 44)),
			period(entry("back", 2, most, 1, -most)),
			period(),
		},
	}
}

func TestPackageOfSeveralPeriods(t *testing.T) {
	text := fromHex(t, `5349474e 04 01 00 03 05 63617368ff 00 0c 6f7765642062792075732121 01 02 c3a4 03 04
		00
		0000000000000000 0000000000000000 0000000000000000 0000000000000000
		0000000000000000 0000000000000000 0000000000000000 0000000000000000
		02
		00 02 01 7fffffffffffffff 02 8000000000000001
		14 00ff6d656d6f206f662032302062797465732e2e 04 00 fffffffffffffed4 03 0000000000000100 01 0000000000000000 00 000000000000002c
		ffffffffffffff00 7fffffffffffffff 8000000000000001 0000000000000100
		7fffffffffffffff 8000000000000001 0000000000000000 0000000000000000
		01
		04 6261636b 02 02 7fffffffffffffff 01 8000000000000001
		ffffffffffffff00 0000000000000000 0000000000000000 0000000000000100
		8000000000000001 7fffffffffffffff 0000000000000000 0000000000000000
		00
		ffffffffffffff00 0000000000000000 0000000000000000 0000000000000100
		0000000000000000 0000000000000000 0000000000000000 0000000000000000`)
	seals(t, "P6: several periods", severalPeriods(), text, "\x2a\xa5", api.OK)
}

// The head of each beginning of a history is the sum of the header that the next one holds.
func TestHeadsOfEachPeriod(t *testing.T) {
	headers := []string{"48454144 00 0000 132f 00 1505 a176 7bb7", "48454144 01 009c 132f 02 ee47 31f8 f814", "48454144 02 1044 132f 01 33c1 02d7 2863", "48454144 03 d33f 132f 00 1505 a176 2863"}
	h := severalPeriods()
	for n, header := range headers {
		beginning := api.History{Accounts: h.Accounts, Periods: h.Periods[:n+1]}
		if _, head, e := seal.Seal(beginning); head != refSum(fromHex(t, header)) || e != api.OK {
			t.Errorf("P6: the head of %d periods = %q, %d, want %q", n+1, head, e, refSum(fromHex(t, header)))
		}
	}
}

// turns is a row of numbers that hangs on its beginning alone.
type turns uint64

func (r *turns) next(n int) int {
	*r = *r*6364136223846793005 + 1442695040888963407
	return int(uint64(*r) >> 33 % uint64(n))
}

func (r *turns) text(n int) string {
	b := make([]byte, n)
	for i := range b {
		b[i] = byte(r.next(256))
	}
	return string(b)
}

// amount is small, or of many bytes, or (seldom) so great that a few of them run over.
func (r *turns) amount() int {
	size := []int{0, 1 << 7, 1 << 31, 1 << 59}[r.next(4)]
	return r.next(2*size+1) - size + r.next(3) - 1
}

// entry is balanced: its last amount is what the others lack.
func (r *turns) entry(accounts int) api.Entry {
	e := entry(r.text(r.next(api.MaxMemo + 1)))
	together := 0
	for range r.next(api.MaxPostings) {
		p := api.Posting{Account: r.next(accounts), Amount: r.amount()}
		together += p.Amount
		e.Postings = append(e.Postings, p)
	}
	e.Postings = append(e.Postings, api.Posting{Account: r.next(accounts), Amount: -together})
	return e
}

func (r *turns) history() api.History {
	var h api.History
	for i := range 1 + r.next(api.MaxAccounts) {
		name := refNumber(i, 1) + r.text(r.next(api.MaxName))
		h.Accounts = append(h.Accounts, api.Account{Name: name, Line: r.next(api.Lines)})
	}
	for range 1 + r.next(api.MaxPeriods) {
		var p api.Period
		for range r.next(api.MaxEntries + 1) {
			p.Entries = append(p.Entries, r.entry(len(h.Accounts)))
		}
		h.Periods = append(h.Periods, p)
	}
	return h
}

func TestPackagesOfManyHistories(t *testing.T) {
	sealed := 0
	for i := range 300 {
		r := turns(i)
		h := r.history()
		text, head, errno := refSeal(h)
		seals(t, fmt.Sprint("P5, P6: history ", i), h, text, head, errno)
		if errno == api.OK {
			sealed++
		}
	}
	if sealed < 200 {
		t.Errorf("only %d of the histories could be sealed", sealed)
	}
}

// What differs in one thing has another package: nothing of a history is left out.
func TestEachThingIsInThePackage(t *testing.T) {
	whole, _, _ := seal.Seal(severalPeriods())
	for k, change := range []func(h *api.History){
		func(h *api.History) { h.Accounts[0].Name = "\x01" },
		func(h *api.History) { h.Accounts[0].Line = 2 },
		func(h *api.History) { h.Accounts = append(h.Accounts, api.Account{Name: "more"}) },
		func(h *api.History) { h.Accounts[0], h.Accounts[3] = h.Accounts[3], h.Accounts[0] },
		func(h *api.History) { h.Periods = h.Periods[:3] },
		func(h *api.History) { h.Periods = append(h.Periods, period()) },
		func(h *api.History) { h.Periods[0], h.Periods[1] = h.Periods[1], h.Periods[0] },
		func(h *api.History) { h.Periods[2].Entries[0].Memo = "" },
		func(h *api.History) { h.Periods[3] = period(entry("", 0, 0)) },
		func(h *api.History) { h.Periods[1].Entries[1].Postings[1].Account = 0 },
		func(h *api.History) { h.Periods[1].Entries[1].Postings = h.Periods[1].Entries[1].Postings[:3:3] },
	} {
		h := severalPeriods()
		change(&h)
		text, head, errno := refSeal(h)
		seals(t, fmt.Sprint("P5, P6: the change ", k), h, text, head, errno)
		if text == whole {
			t.Errorf("P6: the change %d is not seen", k)
		}
	}
}

// atAllBounds is all that can be at once: as many accounts, periods, entries, postings and bytes as may be, 72 drills in one line.
func atAllBounds() api.History {
	var h api.History
	for i := range api.MaxAccounts {
		h.Accounts = append(h.Accounts, api.Account{Name: strings.Repeat("n", api.MaxName-1) + refNumber(i, 1), Line: 3})
	}
	for range api.MaxPeriods {
		var p api.Period
		for i := range api.MaxEntries {
			p.Entries = append(p.Entries, entry(strings.Repeat("\xff", api.MaxMemo), 7, i, 0, -i, 7, 0, 3, most, 3, least, 3, 1))
		}
		h.Periods = append(h.Periods, p)
	}
	return h
}

func TestPackageAtAllBounds(t *testing.T) {
	h := atAllBounds()
	agrees(t, "P6: at all bounds", h, api.OK)
	for i := range h.Periods {
		for j := range h.Periods[i].Entries {
			h.Periods[i].Entries[j].Postings[4].Account = 4
		}
	}
	refuses(t, "P5: at all bounds, and over", h, api.ErrOverflow)
}
