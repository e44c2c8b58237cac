package audit_test

// P13, a sentence a test.

import (
	"fmt"
	"math/rand"
	"reflect"
	"testing"

	"signet/api"
	"signet/audit"
	"signet/seal"
)

// moreHistories can all be sealed.
func moreHistories() []api.History {
	list := append(someHistories(), journals(6, 12))
	r := rand.New(rand.NewSource(15))
	for range 100 {
		list = append(list, randomHistory(r))
	}
	return list
}

// plain is a history with nil for each list without elements.
func plain(h api.History) api.History {
	var p api.History
	p.Accounts = append(p.Accounts, h.Accounts...)
	for _, one := range h.Periods {
		var entries []api.Entry
		for _, e := range one.Entries {
			entries = append(entries, api.Entry{Memo: e.Memo, Postings: append([]api.Posting(nil), e.Postings...)})
		}
		p.Periods = append(p.Periods, api.Period{Entries: entries})
	}
	return p
}

func TestWhatWasSealedIsReadAndAccepted(t *testing.T) {
	for k, h := range moreHistories() {
		text, head := sealed(t, h)
		again, e := seal.Decode(text)
		if e != api.OK || !reflect.DeepEqual(plain(again), plain(h)) {
			t.Errorf("P13: history %d is read as %+v, %d", k, again, e)
		}
		verifies(t, fmt.Sprint("P13: history ", k), text, head, api.OK)
	}
	eachShown(t, moreHistories(), func(what string, s shown, text, head string) {
		accepts(t, "P13: "+what, text, head, s.line)
	})
}

func TestExtendedPeriodByPeriodIsSealedAtOnce(t *testing.T) {
	for k, h := range moreHistories() {
		text, head, e := seal.Seal(api.History{Accounts: h.Accounts, Periods: h.Periods[:1]})
		for i, p := range h.Periods[1:] {
			if e != api.OK {
				t.Fatalf("P13: history %d, period %d: %d", k, i, e)
			}
			text, head, e = seal.Extend(text, p)
		}
		if once, onceHead := sealed(t, h); e != api.OK || text != once || head != onceHead {
			t.Errorf("P13: history %d, period by period: %q, %q, %d, want %q, %q", k, text, head, e, once, onceHead)
		}
	}
}

// Two packages of one head show two lines, where they are not the same.
func TestTwoLinesUnderOneHeadAreTwoTextsOfOneSum(t *testing.T) {
	pairs := 0
	for head, texts := range byHead(t, manyHistories()) {
		for i := 1; i < len(texts); i++ {
			pairs += clashesAtAllLines(t, texts[i-1], texts[i], head)
		}
	}
	if pairs < 200 {
		t.Errorf("few lines are not the same under one head: %d", pairs)
	}
	r := rand.New(rand.NewSource(16))
	for k, h := range moreHistories()[:30] {
		text, head := sealed(t, h)
		period, line := r.Intn(len(h.Periods)), r.Intn(api.Lines)
		b, _ := audit.Prove(text, period, line)
		s := showing(h, period, line)
		f := forgeHeader(s.withLine(randomLine(r, s.line)), 0, s.headers[0].sum())
		accepts(t, fmt.Sprint("P13: a forgery of history ", k), f.text(), head, f.line)
		clashesAtLine(t, fmt.Sprint("P13: a forgery of history ", k), b, f.text(), head)
	}
}

// clashesAtAllLines goes through the lines of all periods that two packages of one head have, and tells how many are not the same.
func clashesAtAllLines(t *testing.T, p, q, head string) int {
	t.Helper()
	pairs := 0
	for period := range api.MaxPeriods {
		for line := range api.Lines {
			b, e := audit.Prove(p, period, line)
			c, f := audit.Prove(q, period, line)
			if e != api.OK || f != api.OK {
				continue
			}
			x, _ := audit.Look(b, head)
			y, _ := audit.Look(c, head)
			if isSameLine(x, y) {
				noClashAtLine(t, "P13: the same line of two packages", b, c, head, api.ErrNone)
				continue
			}
			pairs++
			clashesAtLine(t, "P13: a line of two packages", b, c, head)
		}
	}
	return pairs
}
