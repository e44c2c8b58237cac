package seal_test

// P1 and P2 at Decode and Extend.

import (
	"fmt"
	"reflect"
	"strings"
	"testing"

	"signet/api"
	"signet/seal"
)

// somePackages are the packages of those of some histories that can be sealed, with these.
func somePackages() map[string]api.History {
	packages := map[string]api.History{}
	for _, h := range append(someHistories(), ends(), atAllBounds()) {
		if text, _, e := seal.Seal(h); e == api.OK {
			packages[text] = h
		}
	}
	return packages
}

// ruin writes into all the memory of a history's lists, their spare room too.
func ruin(h api.History) {
	for _, p := range h.Periods {
		for _, e := range p.Entries {
			fill(e.Postings, api.Posting{Account: 77, Amount: 77})
		}
		fill(p.Entries, entry("ruined", 7, 7))
	}
	fill(h.Accounts, api.Account{Name: "ruined", Line: 77})
	fill(h.Periods, period(entry("ruined", 7, 7)))
}

func fill[E any](list []E, with E) {
	for i := range list[:cap(list)] {
		list[:cap(list)][i] = with
	}
}

func TestWhatIsReadIsNotKept(t *testing.T) {
	for text, h := range somePackages() {
		first, _ := seal.Decode(text)
		second, _ := seal.Decode(text)
		ruin(first)
		if !reflect.DeepEqual(plain(second), plain(h)) {
			t.Errorf("P2: two histories that were read share memory: %+v", second)
		}
		reads(t, "P2: a history that came out was kept", text, h)
	}
}

// Each list of what was read is ruined by itself, with its spare room, and gone on with: no other list changes.
func TestListsOfWhatIsReadShareNothing(t *testing.T) {
	for text, h := range somePackages() {
		ruinOne := func(what string, change func(got, want *api.History)) {
			got, _ := seal.Decode(text)
			want := plain(h)
			change(&got, &want)
			if !reflect.DeepEqual(plain(got), plain(want)) {
				t.Errorf("P2: %s has changed other lists: %+v, want %+v", what, got, want)
			}
		}
		ruinOne("the chart", func(got, want *api.History) { ruinBoth(&got.Accounts, &want.Accounts, api.Account{Name: "x"}) })
		for i, p := range h.Periods {
			ruinOne("a period's entries", func(got, want *api.History) {
				ruinBoth(&got.Periods[i].Entries, &want.Periods[i].Entries, entry("x", 0, 1))
			})
			for j := range p.Entries {
				ruinOne("an entry's postings", func(got, want *api.History) {
					ruinBoth(&got.Periods[i].Entries[j].Postings, &want.Periods[i].Entries[j].Postings, api.Posting{Amount: 1})
				})
			}
		}
		ruinOne("the periods", func(got, want *api.History) { ruinBoth(&got.Periods, &want.Periods, period()) })
	}
}

// ruinBoth writes into a list that was read, and into another which shares nothing.
func ruinBoth[E any](got, want *[]E, with E) {
	for _, list := range []*[]E{got, want} {
		long := append(*list, with, with, with)
		fill(*list, with)
		fill(long, with)
	}
}

// where tells the bytes of the memory in which a text lies.
func where(text string) (from, to uintptr) {
	from = reflect.ValueOf(text).Pointer()
	return from, from + uintptr(len(text))
}

func TestWhatIsReadHoldsNoPartOfTheText(t *testing.T) {
	for sealed := range somePackages() {
		text := strings.Clone(sealed)
		from, to := where(text)
		h, _ := seal.Decode(text)
		var texts []string
		for _, a := range h.Accounts {
			texts = append(texts, a.Name)
		}
		for _, p := range h.Periods {
			for _, e := range p.Entries {
				texts = append(texts, e.Memo)
			}
		}
		for _, part := range texts {
			if a, b := where(part); len(part) > 0 && a < to && from < b {
				t.Errorf("P2: %q is memory of the package", part)
			}
		}
	}
}

// somePeriods are periods of all kinds, right and wrong, some of them for few accounts alone.
func somePeriods() []api.Period {
	list := []api.Period{{}, period(api.Entry{}), {Entries: make([]api.Entry, 13)}, period(entry("m", 0, 5, 0, -5)), period(entry("", 0, 1)), period(entry("", 9, 0)), period(entry("", 0, most, 0, most)), period(entry(strings.Repeat("m", 21), 0, 0))}
	for i := range 10 {
		r := turns(3000 + i)
		list = append(list, r.history().Periods...)
	}
	return list
}

func TestExtendWritesIntoNothing(t *testing.T) {
	for text, h := range somePackages() {
		for i, p := range somePeriods() {
			handed := behind(api.History{Periods: []api.Period{p}})
			before := allOf(handed)
			more := handed.Periods[0]
			q, s, e := seal.Extend(text, more)
			if after := allOf(handed); !reflect.DeepEqual(before, after) {
				t.Errorf("P2: period %d was written into: %+v, was %+v", i, after, before)
			}
			all := copyOf(h)
			all.Periods = append(all.Periods[:len(all.Periods):len(all.Periods)], p)
			seals(t, fmt.Sprint("P2: what stands behind the lists of period ", i, " counts, or something was kept"), all, q, s, e)
			extends(t, "P2: again", text, p, q, s, e)
		}
	}
}

func TestExtendKeepsNothing(t *testing.T) {
	text, _ := refLay(example())
	more := example().Periods[0]
	q, s, e := seal.Extend(text, more)
	kept, keptHead := strings.Clone(q), strings.Clone(s)
	more.Entries[0].Memo = "other"
	more.Entries[0].Postings[0].Amount = 6
	if q != kept || s != keptHead || e != api.OK {
		t.Errorf("P2: what Extend answered changed with the period: %q, %q, %d", q, s, e)
	}
	extends(t, "P2: the period that was changed", text, more, "", "", api.ErrBalance)
	extends(t, "P2: the period as it was", text, example().Periods[0], kept, keptHead, api.OK)
	reads(t, "P2: the package as it was", text, example())
}

func TestExtendByNilAndByEmptyLists(t *testing.T) {
	for text := range somePackages() {
		q, s, e := seal.Extend(text, api.Period{})
		extends(t, "P2: no entries", text, api.Period{Entries: []api.Entry{}}, q, s, e)
		extends(t, "P2: no entries, with room", text, api.Period{Entries: make([]api.Entry, 0, 3)}, q, s, e)
		q, s, e = seal.Extend(text, period(api.Entry{}))
		extends(t, "P2: no postings", text, period(api.Entry{Postings: []api.Posting{}}), q, s, e)
	}
}

func TestReadingIsTheSameEachTime(t *testing.T) {
	for text, h := range somePackages() {
		q, s, e := seal.Extend(text, period(entry("m", 0, 5, 0, -5)))
		for range 10 {
			reads(t, "P2: again", text, h)
			isNone(t, "P2: again", text[1:])
			extends(t, "P2: again", text, period(entry("m", 0, 5, 0, -5)), q, s, e)
		}
	}
}

// A panic fails the test, and so does a call that does not end.
func TestReadingEndsAtAllTexts(t *testing.T) {
	var texts []string
	for n := range 600 {
		for _, b := range []string{"\x00", "\x01", "\x02", "\x06", "\x7f", "\x80", "\xff"} {
			texts = append(texts, strings.Repeat(b, n), "SIGN"+strings.Repeat(b, n), "SIGN\x01\x01a\x00"+strings.Repeat(b, n), "SIGN\x01\x01a\x00\x01"+strings.Repeat(b, n), "SIGN\x01\x01a\x00\x01\x0c"+strings.Repeat(b, n))
		}
	}
	for i := range 500 {
		r := turns(i)
		texts = append(texts, r.text(r.next(300)), "SIGN"+r.text(r.next(300)))
	}
	texts = append(texts, strings.Repeat("\x00", 1<<22), strings.Repeat("\xff", 1<<22), "SIGN"+strings.Repeat("\xff", 1<<22), "SIGN\x00"+strings.Repeat("\xff", 1<<22))
	for i, text := range texts {
		readsOrNot(t, fmt.Sprint("P1: text ", i), text)
	}
}

func TestExtendEndsAtLongLists(t *testing.T) {
	text, _ := refLay(example())
	for k, more := range []api.Period{
		{Entries: make([]api.Entry, 1<<20)},
		period(entry(strings.Repeat("long", 1<<20), 0, 0)),
		period(api.Entry{Postings: make([]api.Posting, 1<<20)}),
	} {
		extends(t, fmt.Sprint("P1: period ", k), text, more, "", "", api.ErrArg)
		extends(t, fmt.Sprint("P1: period ", k), strings.Repeat("S", 1<<20), more, "", "", api.ErrForm)
	}
	for _, n := range edgeNumbers {
		for _, m := range edgeNumbers {
			h := example()
			h.Periods = append(h.Periods, period(entry("", 0, n, 1, m)))
			extendsToAll(t, "P1: all numbers", h)
			h.Periods[1] = period(entry("", n, m, 0, 0))
			extendsToAll(t, "P1: all numbers", h)
		}
	}
}
