package audit_test

import (
	"fmt"
	"math/rand"
	"slices"
	"strings"
	"testing"

	"signet/api"
	"signet/audit"
)

// clashesAtLine: ClashLine answers of two bundles, in either order, two texts that are not the same and have one sum.
func clashesAtLine(t *testing.T, what, b, c, head string) {
	t.Helper()
	for _, two := range [][2]string{{b, c}, {c, b}} {
		x, y, e := audit.ClashLine(two[0], two[1], head)
		isPair(t, "P12: "+what, x, y, e)
	}
}

// noClashAtLine: ClashLine answers this error, and nothing else.
func noClashAtLine(t *testing.T, what, b, c, head string, want api.Errno) {
	t.Helper()
	if x, y, e := audit.ClashLine(b, c, head); x != "" || y != "" || e != want {
		t.Errorf("P12: %s: ClashLine(%.60q, %.60q, %.20q) = %q, %q, %d, want %d", what, b, c, head, x, y, e, want)
	}
}

// isSameLine: whether totals and drills are the same.
func isSameLine(x, y api.Line) bool { return x.Total == y.Total && slices.Equal(x.Drills, y.Drills) }

// forgedLines are lines of some histories, each with its forgeries.
func forgedLines(t *testing.T) map[string][]forged {
	r := rand.New(rand.NewSource(13))
	lines := map[string][]forged{}
	g := journals(3, 3)
	g.Accounts = append(g.Accounts, api.Account{Name: "c", Line: 2}, api.Account{Name: "d", Line: 3})
	g.Periods[1].Entries = append(g.Periods[1].Entries, entry("", 2, 700, 3, 300, 2, -600, 0, 200, 3, -600))
	for k, h := range []api.History{example(), g} {
		for i := range h.Periods {
			for line := range api.Lines {
				s := showing(h, i, line)
				what := fmt.Sprint("history ", k, ", period ", i, ", line ", line)
				lines[what] = append(forgeries(r, s), forged{"", s})
				for _, f := range lines[what] {
					accepts(t, "P10: a forgery "+f.where+": "+what, f.text(), s.head(), f.line)
				}
			}
		}
	}
	return lines
}

// Each forgery against the right bundle, and against each other.
func TestClashOfLines(t *testing.T) {
	for what, list := range forgedLines(t) {
		for i, f := range list {
			noClashAtLine(t, "one bundle twice", f.text(), f.text(), f.head(), api.ErrNone)
			for _, g := range list[:i] {
				if !isSameLine(f.line, g.line) {
					clashesAtLine(t, fmt.Sprint(what, ": ", f.where, ", ", g.where), f.text(), g.text(), f.head())
				}
			}
		}
	}
}

// Of one drill each part by itself is another; and the total is the same, but there is a drill more.
func TestClashOfOneDrill(t *testing.T) {
	base := showing(journals(2, 1), 0, 1)
	for k, change := range []func(d *api.Drill){
		func(d *api.Drill) { d.Entry++ },
		func(d *api.Drill) { d.Place++ },
		func(d *api.Drill) { d.Account++ },
		func(d *api.Drill) { d.Amount++ },
	} {
		other := base.changed(func(s *shown) {
			change(&s.line.Drills[0])
			s.line.Total = s.line.Drills[0].Amount
		})
		for at := range base.headers {
			f := forgeHeader(other, at, base.headers[at].sum())
			clashesAtLine(t, fmt.Sprint("part ", k, " of a drill"), base.text(), f.text(), base.head())
		}
	}
	zero := base.changed(func(s *shown) { s.line.Drills = append(s.line.Drills, api.Drill{}) })
	f := forgeHeader(zero, 0, base.headers[0].sum())
	clashesAtLine(t, "a drill of 0 more", base.text(), f.text(), base.head())
}

// Two amounts that make one sum of their drills: as in a package, all ahead of the drills is the same.
func TestClashOfAmounts(t *testing.T) {
	for many := 2; many <= 12; many++ {
		base := showing(journals(2, many), 0, 0).changed(func(s *shown) {
			for i := range s.line.Drills {
				s.line.Drills[i].Amount = 0x164
			}
			s.line.Total = many * 0x164
		}).rooted().chained(1)
		for i := range many {
			for j := range many {
				if i != j {
					other := base.changed(func(s *shown) {
						s.line.Drills[i].Amount += 256 - 33
						s.line.Drills[j].Amount -= 256 - 33
					})
					accepts(t, "P10: two amounts", other.text(), base.head(), other.line)
					clashesAtLine(t, fmt.Sprint("the drills ", i, " and ", j, " of ", many), base.text(), other.text(), base.head())
				}
			}
		}
	}
}

// Headers, their number, and the path are others, but what the line tells is the same.
func TestNoClashOfTheSameLine(t *testing.T) {
	for k, h := range []api.History{example(), several(), journals(2, 2)} {
		for i := range h.Periods {
			for line := range api.Lines {
				s := showing(h, i, line)
				what := fmt.Sprint("history ", k, ", period ", i, ", line ", line)
				noClashAtLine(t, what, s.text(), s.text(), s.head(), api.ErrNone)
				var list []shown
				for at := range s.headers {
					list = append(list, forgeHeader(s.changed(func(s *shown) { s.path[0] = "xx" }), at, s.headers[at].sum()))
				}
				for many := 1; many <= api.MaxPeriods; many++ {
					list = append(list, forgeHeaders(s.changed(func(s *shown) { s.path[1] = "yy" }), many, s.head()))
				}
				for _, f := range list {
					accepts(t, "P10: "+what, f.text(), s.head(), s.line)
					noClashAtLine(t, "the same line: "+what, s.text(), f.text(), s.head(), api.ErrNone)
					noClashAtLine(t, "the same line: "+what, f.text(), s.text(), s.head(), api.ErrNone)
				}
			}
		}
	}
}

func TestNoClashOfOtherLines(t *testing.T) {
	r := rand.New(rand.NewSource(14))
	for k, h := range append(someHistories()[:12], journals(3, 3)) {
		text, head := sealed(t, h)
		var all []string
		for i := range h.Periods {
			for line := range api.Lines {
				b, _ := audit.Prove(text, i, line)
				all = append(all, b)
			}
		}
		for i, b := range all {
			for _, c := range all[:i] {
				noClashAtLine(t, fmt.Sprint("other periods or lines of history ", k), b, c, head, api.ErrNone)
				noClashAtLine(t, fmt.Sprint("other periods or lines of history ", k), c, b, head, api.ErrNone)
			}
		}
	}
	s := showing(journals(3, 3), 1, 0)
	for line := range api.Lines {
		for period := range api.MaxPeriods {
			f := s.withLine(randomLine(r, api.Line{Period: period, Line: line}))
			f = forgeHeaders(f, 2, s.head())
			accepts(t, "P10: a forgery", f.text(), s.head(), f.line)
			if line == 0 && period == 1 {
				clashesAtLine(t, "one period and line", s.text(), f.text(), s.head())
			} else {
				noClashAtLine(t, "another period or line", s.text(), f.text(), s.head(), api.ErrNone)
				noClashAtLine(t, "another period or line", f.text(), s.text(), s.head(), api.ErrNone)
			}
		}
	}
}

// Look's error of the first, then of the second, and all that ahead of ErrNone.
func TestNoLineToClash(t *testing.T) {
	s := showing(journals(2, 2), 0, 0)
	right, head := s.text(), s.head()
	otherLine := showing(journals(2, 2), 0, 1).text()
	otherPeriod := showing(journals(2, 2), 1, 0).text()
	noForm := []string{"", right[:len(right)-1], right + "\x00", "\x06" + right[1:], exampleText, strings.Repeat("\x00", 1000)}
	wrong := []string{s.changed(func(s *shown) { s.headers[0].mark = "head" }).text(), s.changed(func(s *shown) { s.line.Total++ }).text(), s.changed(func(s *shown) { s.path[1] = "xx" }).text(), "\x01" + right[1:]}
	for _, b := range noForm {
		for _, c := range append(append(noForm, wrong...), right, otherLine) {
			noClashAtLine(t, "the first has not the form", b, c, head, api.ErrForm)
			noClashAtLine(t, "the first has not the form, under another head", b, c, "xx", api.ErrForm)
		}
	}
	for _, b := range wrong {
		for _, c := range append(append(noForm, wrong...), right, otherLine) {
			noClashAtLine(t, "the first is false", b, c, head, api.ErrFalse)
		}
	}
	for _, b := range []string{right, otherLine, otherPeriod} {
		for _, c := range noForm {
			noClashAtLine(t, "the second has not the form", b, c, head, api.ErrForm)
		}
		for _, c := range wrong {
			noClashAtLine(t, "the second is false", b, c, head, api.ErrFalse)
		}
		for _, other := range otherHeads(head) {
			noClashAtLine(t, "another head", b, right, other, api.ErrFalse)
			noClashAtLine(t, "another head, and no form", b, "", other, api.ErrFalse)
		}
	}
}
