package seal_test

import (
	"fmt"
	"strings"
	"testing"

	"signet/api"
	"signet/seal"
)

// extends: Extend answers of the text with p more what these are.
func extends(t *testing.T, what, text string, p api.Period, wantText, wantHead string, want api.Errno) {
	t.Helper()
	if q, s, e := seal.Extend(text, p); q != wantText || s != wantHead || e != want {
		t.Errorf("%s: Extend(%.200q, %+v) = %.200q, %q, %d, want %.200q, %q, %d", what, text, p, q, s, e, wantText, wantHead, want)
	}
}

// extendsToAll: the history up to its last period, if that much can be sealed, is extended by it to what the reference answers of all.
func extendsToAll(t *testing.T, what string, h api.History) {
	t.Helper()
	last := len(h.Periods) - 1
	ahead := api.History{Accounts: h.Accounts, Periods: h.Periods[:last]}
	if last < 1 || (refLedger{ahead}).wrong() != api.OK {
		return
	}
	text, _ := refLay(ahead)
	wantText, wantHead, want := refSeal(h)
	extends(t, what, text, h.Periods[last], wantText, wantHead, want)
}

func TestTheExampleExtended(t *testing.T) {
	text, _ := refLay(example())
	want := fromHex(t, `5349474e 02 01 61 00 01 62 01 02 01
		01 6d 02 00 0000000000000005 01 fffffffffffffffb
		0000000000000005 fffffffffffffffb
		0000000000000005 fffffffffffffffb 0000000000000000 0000000000000000
		01
		01 6e 02 01 0000000000000002 00 fffffffffffffffe
		0000000000000003 fffffffffffffffd
		fffffffffffffffe 0000000000000002 0000000000000000 0000000000000000`)
	more := period(entry("n", 1, 2, 0, -2))
	h := example()
	h.Periods = append(h.Periods, more)
	_, head := refLay(h)
	extends(t, "P7: the example", text, more, want, head, api.OK)
}

func TestPeriodByPeriodIsAtOnce(t *testing.T) {
	list := []api.History{severalPeriods(), wide(), ends(), atAllBounds()}
	for i := range 100 {
		r := turns(7000 + i)
		list = append(list, r.history())
	}
	for i, h := range list {
		text, _, e := seal.Seal(api.History{Accounts: h.Accounts, Periods: h.Periods[:1]})
		for n := 2; n <= len(h.Periods) && e == api.OK; n++ {
			soFar := api.History{Accounts: h.Accounts, Periods: h.Periods[:n]}
			wantText, wantHead, want := refSeal(soFar)
			extends(t, fmt.Sprint("P7, P13: history ", i, " with ", n, " periods"), text, h.Periods[n-1], wantText, wantHead, want)
			text, _, e = seal.Extend(text, h.Periods[n-1])
		}
	}
}

// Each error of Seal, in a history of one period and in one of all but the last that may be.
func TestExtendRefusesAsSealDoes(t *testing.T) {
	up := entry("", 0, most, 2, -most)
	for _, c := range []struct {
		more api.Period
		want api.Errno
	}{
		{period(), api.OK},
		{period(entry("", 0, 1, 2, -1)), api.ErrOverflow},
		{period(entry("", 0, -most, 2, most)), api.OK},
		{period(entry("", 1, most, 3, -most)), api.OK},
		{period(entry("", 1, most, 3, -most), entry("", 0, 1, 2, -1)), api.ErrOverflow},
		{period(entry("", 1, most, 3, -most), entry("", 0, -1, 2, 1), entry("", 0, 1, 2, -1)), api.OK},
		{period(entry("", 0, -most, 2, most), entry("", 0, -1, 3, 1)), api.OK},
		{period(entry("", 0, -most, 2, most), entry("", 0, -2, 3, 2)), api.ErrOverflow}, // the total alone
		{period(entry("", 4, 0)), api.ErrAccount},
		{period(entry("", -1, 0)), api.ErrAccount},
		{period(entry("", 0, 1)), api.ErrBalance},
		{period(entry("", 0, 1), entry("", 4, 0)), api.ErrBalance},
		{period(entry("", 4, 0), entry("", 0, 1)), api.ErrAccount},
		{period(api.Entry{}), api.ErrArg},
		{period(entry("", 4, 0), api.Entry{Memo: "m"}), api.ErrArg},
		{period(entry("", 0, 1), entry(strings.Repeat("m", 21), 0, 0)), api.ErrArg},
		{period(entry(strings.Repeat("m", 20), 0, 0)), api.OK},
		{api.Period{Entries: make([]api.Entry, 13)}, api.ErrArg},
		{period(entry("", 0, 0, 0, 0, 0, 0, 0, 0, 0, 0, 0, 0)), api.OK},
		{period(entry("", 0, 0, 0, 0, 0, 0, 0, 0, 0, 0, 0, 0, 0, 0)), api.ErrArg},
	} {
		for _, ahead := range [][]api.Period{one(up), {period(up), period(), period(), period(), period()}} {
			h := books(ahead...)
			text, _ := refLay(h)
			h.Periods = append(ahead[:len(ahead):len(ahead)], c.more)
			if c.want == api.ErrArg {
				refuses(t, "P5", h, api.ErrArg)
				extends(t, "P7", text, c.more, "", "", api.ErrArg)
			} else {
				agrees(t, "P5", h, c.want)
				extendsToAll(t, "P7", h)
			}
		}
	}
}

func TestOnePeriodTooMany(t *testing.T) {
	full, _ := refLay(books(make([]api.Period, api.MaxPeriods)...))
	for _, more := range []api.Period{period(), period(entry("", 0, 5, 1, -5)), period(entry("", 4, 0)), period(entry("", 0, 1)), period(api.Entry{})} {
		extends(t, "P7: one period too many", full, more, "", "", api.ErrArg)
		isNone(t, "P7: a package of six periods and a byte", full+"\x00")
		extends(t, "P7: one period too many for what is no package", full+"\x00", more, "", "", api.ErrForm)
	}
}

func TestNoPackageIsToldFirst(t *testing.T) {
	whole, _ := refLay(books(one(entry("", 0, most, 2, -most))...))
	for _, text := range []string{"", "SIGN", whole[1:], whole[:len(whole)-1], whole + "\x00", strings.Replace(whole, "SIGN", "SIGM", 1)} {
		for _, more := range []api.Period{period(), period(entry("", 0, 1, 3, -1)), period(entry("", 4, 0)), period(entry("", 0, 1)), period(api.Entry{}), {Entries: make([]api.Entry, 13)}} {
			extends(t, "P7: ErrForm is first", text, more, "", "", api.ErrForm)
		}
	}
}
