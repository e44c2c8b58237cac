package seal_test

import (
	"fmt"
	"reflect"
	"strings"
	"testing"

	"signet/api"
	"signet/seal"
)

// plain has nil for each empty list, so that histories can be held against each other.
func plain(h api.History) api.History {
	h.Accounts = append([]api.Account(nil), h.Accounts...)
	h.Periods = append([]api.Period(nil), h.Periods...)
	for i, p := range h.Periods {
		h.Periods[i].Entries = append([]api.Entry(nil), p.Entries...)
		for j, e := range p.Entries {
			h.Periods[i].Entries[j].Postings = append([]api.Posting(nil), e.Postings...)
		}
	}
	return h
}

// reads: Decode answers of the text the history.
func reads(t *testing.T, what, text string, want api.History) {
	t.Helper()
	h, e := seal.Decode(text)
	if e != api.OK || !reflect.DeepEqual(plain(h), plain(want)) {
		t.Errorf("%s: Decode(%.200q) = %+v, %d, want %+v", what, text, h, e, want)
	}
}

// isNone: Decode and Extend answer of the text that it is no package, and nothing else.
func isNone(t *testing.T, what, text string) {
	t.Helper()
	if h, e := seal.Decode(text); e != api.ErrForm || !reflect.DeepEqual(h, api.History{}) {
		t.Errorf("%s: Decode(%.200q) = %+v, %d, want ErrForm", what, text, h, e)
	}
	if p, s, e := seal.Extend(text, api.Period{}); p != "" || s != "" || e != api.ErrForm {
		t.Errorf("%s: Extend(%.200q) = %q, %q, %d, want ErrForm", what, text, p, s, e)
	}
}

// laid: the text that h has, or would have if it could be sealed, is read again, or is none.
func laid(t *testing.T, what string, h api.History, isPackage bool) {
	t.Helper()
	text, _ := refLay(h)
	if isPackage {
		reads(t, what, text, h)
	} else {
		isNone(t, what, text)
	}
}

// readsOrNot: what is no text that some history has is none; whether it is one is asked of the reference.
func readsOrNot(t *testing.T, what, text string) bool {
	t.Helper()
	h, e := seal.Decode(text)
	if e != api.OK {
		isNone(t, what, text)
		return false
	}
	if again, _, errno := refSeal(h); again != text || errno != api.OK {
		t.Errorf("%s: Decode(%.200q) = %+v, whose package is %.200q, %d", what, text, h, again, errno)
	}
	return true
}

// ends has amounts, balances and totals at both ends of 64 bits.
func ends() api.History {
	return books(
		period(entry("", 0, least, 2, most, 3, 1), entry("up", 1, 0, 3, 0)),
		period(entry("back", 0, most, 2, -most)),
		period(entry("", 0, 1, 3, -1), entry("", 3, least, 3, most, 3, 1)),
	)
}

func TestTheExampleIsRead(t *testing.T) {
	text := fromHex(t, `5349474e 02 01 61 00 01 62 01 01 01
		01 6d 02 00 0000000000000005 01 fffffffffffffffb
		0000000000000005 fffffffffffffffb
		0000000000000005 fffffffffffffffb 0000000000000000 0000000000000000`)
	reads(t, "P7: the example", text, example())
}

func TestWhatWasSealedIsRead(t *testing.T) {
	list := []api.History{example(), wide(), severalPeriods(), atAllBounds(), ends(),
		{Accounts: []api.Account{{Name: "\x00"}}, Periods: []api.Period{period()}},
		{Accounts: []api.Account{{Name: "n", Line: 3}}, Periods: make([]api.Period, api.MaxPeriods)},
		books(period(entry("SIGN", 0, 0)), period(), period(entry("\x00\x01\xff", 3, 0))),
	}
	for i := range 300 {
		r := turns(5000 + i)
		if h := r.history(); (refLedger{h}).wrong() == api.OK {
			list = append(list, h)
		}
	}
	if len(list) < 200 {
		t.Errorf("only %d histories can be sealed", len(list))
	}
	for i, h := range list {
		text, _, e := seal.Seal(h)
		if e != api.OK {
			t.Fatalf("P5: history %d: %d", i, e)
		}
		reads(t, fmt.Sprint("P7, P13: history ", i), text, h)
		laid(t, fmt.Sprint("P7: history ", i), h, true)
	}
}

func TestTextsThatAreNoPackages(t *testing.T) {
	whole, _ := refLay(wide())
	for _, text := range []string{
		"", "S", "SIGN", "SIGN\x00", "SIGN\x00\x00", "SIGN\x01", "HEAD", "\x00", " " + whole, whole[1:], whole + whole, "SIGN" + whole,
		"SIGN\x00\x01\x00" + refNumber(0, 8) + strings.Repeat("\x00", 24),
		"SIGN\x01\x01a\x00\x00",
		"sign" + whole[4:], "SIGM" + whole[4:], strings.ToLower(whole), strings.ToUpper(whole),
		strings.Repeat("\x00", len(whole)), strings.Repeat("\xff", 9000), "SIGN" + strings.Repeat("\xff", 9000), "SIGN" + strings.Repeat("\x00", 9000), "SIGN" + strings.Repeat("\x01", 9000),
	} {
		isNone(t, "P7", text)
	}
}

func TestPackagesCutOffOrGoneOnWith(t *testing.T) {
	for i, h := range []api.History{example(), severalPeriods(), ends()} {
		text, _ := refLay(h)
		for at := range text {
			isNone(t, fmt.Sprint("P7: package ", i, " cut off at ", at), text[:at])
			isNone(t, fmt.Sprint("P7: package ", i, " from ", at+1, " on"), text[at+1:])
		}
		for b := range 256 {
			isNone(t, fmt.Sprint("P7: behind package ", i), text+refNumber(b, 1))
			isNone(t, fmt.Sprint("P7: ahead of package ", i), refNumber(b, 1)+text)
		}
		isNone(t, "P7: more behind", text+strings.Repeat("\x00", 64))
	}
}

// besideOne are the histories that can be sealed and whose packages differ from that of h in one byte or in none, by these.
func besideOne(h api.History) map[string]api.History {
	whole, _ := refLay(h)
	others := map[string]api.History{}
	try := func(change func(other *api.History)) {
		other := plain(h)
		change(&other)
		text, _, errno := refSeal(other)
		if errno == api.OK && areNamed(other.Accounts) && differInOne(text, whole) {
			others[text] = other
		}
	}
	tryBytes := func(text string, change func(other *api.History, text string)) {
		for at := range len(text) {
			for b := range 256 {
				try(func(other *api.History) { change(other, text[:at]+refNumber(b, 1)+text[at+1:]) })
			}
		}
	}
	for i, a := range h.Accounts {
		tryBytes(a.Name, func(other *api.History, name string) { other.Accounts[i].Name = name })
		for line := range api.Lines {
			try(func(other *api.History) { other.Accounts[i].Line = line })
		}
	}
	for i, p := range h.Periods {
		for j, e := range p.Entries {
			tryBytes(e.Memo, func(other *api.History, memo string) { other.Periods[i].Entries[j].Memo = memo })
			for k := range e.Postings {
				for account := range h.Accounts {
					try(func(other *api.History) { other.Periods[i].Entries[j].Postings[k].Account = account })
				}
			}
		}
	}
	return others
}

// differInOne: whether two texts of one length differ in one byte or in none.
func differInOne(a, b string) bool {
	for i := range len(a) {
		if len(a) == len(b) && a[:i] == b[:i] && a[i+1:] == b[i+1:] {
			return true
		}
	}
	return false
}

// areNamed: whether all names are different.
func areNamed(accounts []api.Account) bool {
	names := map[string]bool{}
	for _, a := range accounts {
		names[a.Name] = true
	}
	return len(names) == len(accounts)
}

func TestEachByteChanged(t *testing.T) {
	for i, h := range []api.History{example(), severalPeriods(), ends()} {
		text, _ := refLay(h)
		others := besideOne(h)
		found := 0
		for at := range len(text) {
			for b := range 256 {
				changed := text[:at] + refNumber(b, 1) + text[at+1:]
				what := fmt.Sprint("P7: package ", i, " with ", b, " at ", at)
				if other, ok := others[changed]; ok {
					reads(t, what, changed, other)
					found++
				} else {
					isNone(t, what, changed)
				}
				if t.Failed() {
					return
				}
			}
		}
		if found < len(others) {
			t.Errorf("P7: of %d packages %d are one byte from package %d", len(others), found, i)
		}
	}
}

// Bytes that are changed, left out, laid in between or brought to another place: whatever is read then is what its package tells.
func TestManyBytesChanged(t *testing.T) {
	read := 0
	for i := range 3000 {
		r := turns(9000 + i)
		text, _ := refLay(r.history())
		for range 1 + r.next(3) {
			at := r.next(len(text))
			other := r.next(len(text))
			switch r.next(4) {
			case 0:
				text = text[:at] + r.text(1) + text[at+1:]
			case 1:
				text = text[:at] + r.text(1) + text[at:]
			case 2:
				text = text[:at] + text[min(len(text), at+r.next(9)):] + "\x00"
			case 3:
				text = text[:at] + text[other:other+1] + text[at+1:]
			}
		}
		if readsOrNot(t, fmt.Sprint("P7: text ", i), text) {
			read++
		}
	}
	if read < 100 {
		t.Errorf("only %d of the texts are packages", read)
	}
}

// Balances and totals are told by the entries: no others may stand in the text, were they even by each other right.
func TestBalancesAndTotalsThatTheEntriesDoNotMake(t *testing.T) {
	for i, h := range []api.History{example(), wide(), severalPeriods(), ends()} {
		text, _ := refLay(h)
		behind := len(text)
		for n := len(h.Periods) - 1; n >= 0; n-- {
			numbers := 8 * (len(h.Accounts) + api.Lines)
			for at := behind - numbers; at < behind; at += 8 {
				for _, number := range []string{refNumber(1, 8), refNumber(-1, 8), refNumber(212, 8), refNumber(most, 8), refNumber(least, 8), refNumber(0, 8)} {
					if text[at:at+8] != number {
						isNone(t, fmt.Sprint("P7: another number at ", at, " in package ", i), text[:at]+number+text[at+8:])
					}
				}
				if next := at + 8; next < behind && text[at:next] != text[next:next+8] {
					isNone(t, fmt.Sprint("P7: two numbers changed about at ", at, " in package ", i), text[:at]+text[next:next+8]+text[at:next]+text[next+8:])
				}
			}
			behind -= numbers + 1
			for _, e := range h.Periods[n].Entries {
				behind -= len(refEntry(e))
			}
		}
	}
	text, _ := refLay(books(period(entry("", 0, 5, 1, -5))))
	for _, numbers := range [][]int{
		{6, -6, 0, 0, 0, 0, 0, 0},
		{5, -5, 0, 0, 1, -1, 0, 0},
		{5, -5, 0, 0, 0, 0, 5, -5},
		{-5, 5, 0, 0, 0, 0, 0, 0},
		{0, 0, 0, 0, 0, 0, 0, 0},
	} {
		other := text[:len(text)-64]
		for _, n := range numbers {
			other += refNumber(n, 8)
		}
		isNone(t, fmt.Sprint("P7: the numbers ", numbers), other)
	}
}

func TestOutOfBoundsIsNoPackage(t *testing.T) {
	laid(t, "P7: in bounds", wide(), true)
	for k, change := range outOfBounds {
		h := wide()
		change(&h)
		laid(t, fmt.Sprint("P7: out of bounds by ", k), h, false)
	}
}
