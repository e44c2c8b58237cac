package audit_test

import (
	"fmt"
	"reflect"
	"slices"
	"strings"
	"testing"

	"signet/api"
	"signet/audit"
	"signet/seal"
)

// accepts: Look answers this line.
func accepts(t *testing.T, what, bundle, head string, want api.Line) {
	t.Helper()
	l, e := audit.Look(bundle, head)
	if e != api.OK || l.Period != want.Period || l.Line != want.Line || l.Total != want.Total || !slices.Equal(l.Drills, want.Drills) {
		t.Errorf("%s: Look(%.80q, %q) = %+v, %d, want %+v", what, bundle, head, l, e, want)
	}
}

// rejects: Look answers this error, and nothing else.
func rejects(t *testing.T, what, bundle, head string, want api.Errno) {
	t.Helper()
	if l, e := audit.Look(bundle, head); e != want || !reflect.DeepEqual(l, api.Line{}) {
		t.Errorf("%s: Look(%.80q, %.20q) = %+v, %d, want %d", what, bundle, head, l, e, want)
	}
}

// looksAs: Look answers what the reference does.
func looksAs(t *testing.T, what, bundle, head string) {
	t.Helper()
	if line, e := refLook(bundle, head); e == api.OK {
		accepts(t, what, bundle, head, line)
	} else {
		rejects(t, what, bundle, head, e)
	}
}

// eachShown goes through all lines of some histories.
func eachShown(t *testing.T, histories []api.History, look func(what string, s shown, text, head string)) {
	for k, h := range histories {
		text, head := sealed(t, h)
		for i := range h.Periods {
			for line := range api.Lines {
				what := fmt.Sprint("history ", k, ", period ", i, ", line ", line)
				bundle, e := audit.Prove(text, i, line)
				if e != api.OK {
					t.Errorf("P9: %s: %d", what, e)
				}
				look(what, showing(h, i, line), bundle, head)
			}
		}
	}
}

func TestWhatIsProvenIsAccepted(t *testing.T) {
	eachShown(t, someHistories(), func(what string, s shown, text, head string) {
		accepts(t, "P10: "+what, text, head, s.line)
	})
	bundle, _ := audit.Prove(exampleText, 0, 0)
	accepts(t, "P10: the example", bundle, exampleHead, api.Line{Total: 5, Drills: []api.Drill{{Amount: 5}}})
	bundle, _ = audit.Prove(exampleText, 0, 1)
	accepts(t, "P10: the example", bundle, exampleHead, api.Line{Line: 1, Total: -5, Drills: []api.Drill{{Place: 1, Account: 1, Amount: -5}}})
}

// fewHistories are enough where each byte of each bundle is gone through.
func fewHistories() []api.History { return append(someHistories()[4:8], example(), several()) }

func TestNotOfTheForm(t *testing.T) {
	eachShown(t, append(fewHistories(), full()), func(what string, s shown, text, head string) {
		for at := range len(text) {
			rejects(t, "P10: a prefix: "+what, text[:at], head, api.ErrForm)
		}
		for b := range 256 {
			rejects(t, "P10: a byte behind it: "+what, text+number(b, 1), head, api.ErrForm)
		}
		rejects(t, "P10: a byte ahead of it: "+what, "\x00"+text, head, api.ErrForm)
		rejects(t, "P10: twice: "+what, text+text, head, api.ErrForm)
		for n := api.MaxPeriods; n < 256; n++ {
			rejects(t, "P10: the period: "+what, number(n, 1)+text[1:], head, api.ErrForm)
		}
		for n := api.Lines; n < 256; n++ {
			rejects(t, "P10: the line: "+what, text[:1]+number(n, 1)+text[2:], head, api.ErrForm)
		}
		for n := range 256 {
			if n != len(s.headers) {
				rejects(t, "P10: a number of headers: "+what, text[:2]+number(n, 1)+text[3:], head, api.ErrForm)
			}
		}
		at := 3 + 16*len(s.headers) + 8
		for _, n := range []int{0, 1, 2, 3, 71, 72, 73, 255, 256, 257, 1 << 15, 1<<16 - 1} {
			if n != len(s.line.Drills) {
				rejects(t, "P10: a number of drills: "+what, text[:at]+number(n, 2)+text[at+2:], head, api.ErrForm)
			}
		}
	})
}

// A bundle that would be right in all else, but is beyond the bounds.
func TestBeyondTheBounds(t *testing.T) {
	base := showing(several(), 1, 3)
	headers := func(many int) shown {
		return base.changed(func(s *shown) {
			s.headers = nil
			for i := range many {
				h := base.headers[0]
				h.number = 1 + i
				s.headers = append(s.headers, h)
			}
		}).chained(1)
	}
	for many := 1; many <= api.MaxPeriods; many++ {
		accepts(t, fmt.Sprint("P10: headers: ", many), headers(many).text(), headers(many).head(), base.line)
	}
	for many := api.MaxPeriods + 1; many < 256; many++ {
		rejects(t, fmt.Sprint("P10: headers: ", many), headers(many).text(), headers(many).head(), api.ErrForm)
	}
	none := base.changed(func(s *shown) { s.headers = nil })
	for _, head := range []string{"", "\x00\x00", seal.Sum(""), severalHead} {
		rejects(t, "P10: no headers", none.text(), head, api.ErrForm)
	}
	drills := func(many int) shown {
		return base.changed(func(s *shown) { s.line.Drills, s.line.Total = make([]api.Drill, many), 0 }).rooted().chained(1)
	}
	for many := range 73 {
		accepts(t, fmt.Sprint("P10: drills: ", many), drills(many).text(), drills(many).head(), drills(many).line)
	}
	for _, many := range []int{73, 74, 144, 255, 256, 256 + 72, 1 << 15, 1<<16 - 1} {
		rejects(t, fmt.Sprint("P10: drills: ", many), drills(many).text(), drills(many).head(), api.ErrForm)
	}
	for number := range 256 {
		s := base.changed(func(s *shown) {
			s.line.Period = number
			for i := range s.headers {
				s.headers[i].number = number + i
			}
		}).chained(1)
		if number < api.MaxPeriods {
			accepts(t, fmt.Sprint("P10: period ", number), s.text(), s.head(), s.line)
		} else {
			rejects(t, fmt.Sprint("P10: period ", number), s.text(), s.head(), api.ErrForm)
		}
	}
	for _, long := range [][]string{{"", ""}, {"xx"}, {"xx", "x"}, {"x", "xx"}, {"xx", "xxx"}, {"xx", "xx", "xx"}, nil} {
		s := base.changed(func(s *shown) { s.path = long })
		rejects(t, "P10: a path of another length", s.text(), s.head(), api.ErrForm)
	}
}

// What has not the form is told ahead of what does not go with the head, and of all that is wrong in it.
func TestTheFormIsToldFirst(t *testing.T) {
	eachShown(t, fewHistories(), func(what string, s shown, text, head string) {
		wrong := s.changed(func(s *shown) {
			s.headers[0].mark = "head"
			s.line.Total++
		}).text()
		for _, other := range append(otherHeads(head), head) {
			rejects(t, "P10: "+what, wrong, other, api.ErrFalse)
			rejects(t, "P10: "+what, wrong+"\x00", other, api.ErrForm)
			rejects(t, "P10: "+what, wrong[:len(wrong)-1], other, api.ErrForm)
			rejects(t, "P10: "+what, "\x06"+wrong[1:], other, api.ErrForm)
			rejects(t, "P10: "+what, wrong[:1]+"\x04"+wrong[2:], other, api.ErrForm)
		}
	})
	for _, head := range otherHeads(exampleHead) {
		rejects(t, "P10: nothing", "", head, api.ErrForm)
		rejects(t, "P10: a package", exampleText, head, api.ErrForm)
	}
}

// Each header is given another mark, and all behind it made to go with that.
func TestTheMark(t *testing.T) {
	eachShown(t, fewHistories(), func(what string, s shown, text, head string) {
		for i := range s.headers {
			for _, mark := range []string{"head", "HEAd", "hEAD", "HEAE", "SIGN", "DAEH", "\x00\x00\x00\x00", "    "} {
				other := s.changed(func(s *shown) { s.headers[i].mark = mark }).chained(1)
				rejects(t, fmt.Sprint("P10: the mark of header ", i, ": ", what), other.text(), other.head(), api.ErrFalse)
			}
		}
	})
}

func TestTheNumber(t *testing.T) {
	eachShown(t, fewHistories(), func(what string, s shown, text, head string) {
		for i, h := range s.headers {
			for _, n := range []int{0, 1, 2, 3, 4, 5, 6, 7, 100, 128, 255} {
				if n != h.number {
					other := s.changed(func(s *shown) { s.headers[i].number = n }).chained(1)
					rejects(t, fmt.Sprint("P10: the number of header ", i, ": ", what), other.text(), other.head(), api.ErrFalse)
				}
			}
		}
		for n := range api.MaxPeriods {
			if n != s.line.Period {
				other := s.changed(func(s *shown) { s.line.Period = n })
				rejects(t, "P10: the period: "+what, other.text(), head, api.ErrFalse)
			}
		}
	})
}

func TestTheHeaderAhead(t *testing.T) {
	eachShown(t, fewHistories(), func(what string, s shown, text, head string) {
		for i, h := range s.headers {
			for _, ahead := range []string{"\x00\x00", "\xff\xff", h.ahead[1:] + h.ahead[:1], number(int(h.ahead[0])+1, 1) + h.ahead[1:], h.ahead[:1] + number(int(h.ahead[1])+1, 1)} {
				other := s.changed(func(s *shown) { s.headers[i].ahead = ahead }).chained(i + 1)
				if i == 0 {
					accepts(t, "P10: what is ahead of the first header is not shown: "+what, other.text(), other.head(), s.line)
				} else if ahead != h.ahead {
					rejects(t, fmt.Sprint("P10: header ", i, ": ", what), other.text(), other.head(), api.ErrFalse)
				}
			}
			changed := s.changed(func(s *shown) { s.headers[i].balances = h.balances[1:] + "x" })
			if other := changed.chained(1); changed.text() != text && changed.text() != other.text() {
				rejects(t, "P10: a header that the next one does not tell: "+what, changed.text(), other.head(), api.ErrFalse)
				rejects(t, "P10: a header that the next one does not tell: "+what, changed.text(), head, api.ErrFalse)
			}
		}
	})
}

func TestTheHead(t *testing.T) {
	eachShown(t, append(someHistories()[:10], full()), func(what string, s shown, text, head string) {
		for _, other := range otherHeads(head) {
			rejects(t, "P10: another head: "+what, text, other, api.ErrFalse)
		}
		for _, h := range s.headers[:len(s.headers)-1] {
			if other := h.sum(); other != head {
				rejects(t, "P10: the sum of an earlier header: "+what, text, other, api.ErrFalse)
			}
		}
	})
	bundle, _ := audit.Prove(exampleText, 0, 0)
	for n := range 1 << 16 {
		if head := number(n, 2); head != exampleHead {
			rejects(t, "P10: all heads", bundle, head, api.ErrFalse)
		}
	}
}

// isElsewhere: whether the leaf and the path lead to another root than that which stands there.
func isElsewhere(s shown) bool { return s.text() != s.rooted().text() }

// A line whose drills are its total, but that is not the statement's.
func TestTheLeaf(t *testing.T) {
	eachShown(t, append(fewHistories(), full()), func(what string, s shown, text, head string) {
		for _, change := range []func(s *shown){
			func(s *shown) { s.line.Line ^= 1 },
			func(s *shown) { s.line.Line ^= 2 },
			func(s *shown) { s.line.Line ^= 3 },
			func(s *shown) { s.line.Drills = append(s.line.Drills, api.Drill{}) },
			func(s *shown) {
				s.line.Drills = append(s.line.Drills, api.Drill{Amount: -7})
				s.line.Total -= 7
			},
			func(s *shown) { s.line.Drills = append(s.line.Drills, api.Drill{Amount: 7}, api.Drill{Amount: -7}) },
			func(s *shown) { s.line.Drills, s.line.Total = nil, 0 },
			func(s *shown) {
				for i := range s.line.Drills {
					s.line.Drills[i].Entry++
				}
			},
			func(s *shown) {
				for i := range s.line.Drills {
					s.line.Drills[i].Place++
				}
			},
			func(s *shown) {
				for i := range s.line.Drills {
					s.line.Drills[i].Account++
				}
			},
			func(s *shown) { slices.Reverse(s.line.Drills) },
			func(s *shown) { slices.Reverse(s.path) },
			func(s *shown) { s.path[0] = "xx" },
			func(s *shown) { s.path[1] = "xx" },
			func(s *shown) { s.headers[0].statement = "xx" },
			func(s *shown) {
				s.headers[0].statement, s.headers[0].journal = s.headers[0].journal, s.headers[0].statement
			},
			func(s *shown) {
				s.headers[0].statement, s.headers[0].balances = s.headers[0].balances, s.headers[0].statement
			},
		} {
			other := s.changed(change).chained(1)
			if len(other.line.Drills) <= 72 && isElsewhere(other) {
				rejects(t, "P10: "+what, other.text(), other.head(), api.ErrFalse)
			} else if len(other.line.Drills) <= 72 {
				accepts(t, "P10: "+what, other.text(), other.head(), other.line)
			}
			if other = other.rooted().chained(1); len(other.line.Drills) <= 72 {
				accepts(t, "P10: whoever has the head alone sees no more than what leads to it: "+what, other.text(), other.head(), other.line)
			}
		}
	})
}

// The statement's root of the line's period counts, not that of a later one.
func TestTheStatementOfTheFirstHeader(t *testing.T) {
	s := showing(several(), 1, 0)
	for i := 1; i < len(s.headers); i++ {
		other := s.changed(func(s *shown) {
			s.headers[i].statement, s.headers[0].statement = s.headers[0].statement, "xx"
		}).chained(1)
		rejects(t, fmt.Sprint("P10: the statement of header ", i), other.text(), other.head(), api.ErrFalse)
		other = s.changed(func(s *shown) { s.headers[i].statement = "xx" }).chained(1)
		accepts(t, fmt.Sprint("P10: the statement of header ", i), other.text(), other.head(), s.line)
	}
}

// All else that stands in headers and drills may be anything.
func TestWhatIsNotLookedAt(t *testing.T) {
	s := showing(several(), 1, 1).changed(func(s *shown) {
		for i := range s.headers {
			s.headers[i].chart, s.headers[i].entries, s.headers[i].journal, s.headers[i].balances = "ch", 255, "jo", "ba"
		}
		s.line.Drills = []api.Drill{{Entry: 255, Place: 255, Account: 255, Amount: least}, {Entry: 12, Place: 6, Account: 8, Amount: most}, {}, {}}
		s.line.Total = -1
		s.path = []string{"\x00\x00", "\xff\xff"}
	}).rooted().chained(1)
	accepts(t, "P10: anything else", s.text(), s.head(), s.line)
	for period := range api.MaxPeriods {
		many := shown{line: api.Line{Period: period}, path: s.path}
		for i := range api.MaxPeriods {
			many.headers = append(many.headers, header{"HEAD", period + i, "ah", "ch", 1, "jo", "st", "ba"})
		}
		many = many.rooted().chained(1)
		accepts(t, "P10: as many headers as there may be, of each period", many.text(), many.head(), many.line)
	}
}

// The leaf is sealed with the wrong total, so that nothing else is wrong.
func TestTheTotal(t *testing.T) {
	amounts := func(total int, amounts ...int) shown {
		return showing(several(), 1, 2).changed(func(s *shown) {
			s.line.Total = total
			for i, n := range amounts {
				s.line.Drills = append(s.line.Drills, api.Drill{Entry: i, Amount: n})
			}
		}).rooted().chained(1)
	}
	for _, c := range [][]int{
		{0}, {0, 0}, {5, 5}, {-5, -5}, {0, 5, -5}, {most, most}, {least, least}, {most, most, most, -most}, {least, least, least, most, 1}, {-1, most, least}, {-2, most, most, least, least}, {0, least, most, 1}, {most, 1, 1, most, -2}, {6, 1, 2, 3},
	} {
		s := amounts(c[0], c[1:]...)
		accepts(t, fmt.Sprint("P10: ", c), s.text(), s.head(), s.line)
		for _, by := range []int{1, -1, 256, least} {
			s := amounts(c[0]+by, c[1:]...)
			rejects(t, fmt.Sprint("P10: ", c, " and ", by), s.text(), s.head(), api.ErrFalse)
		}
	}
	for _, c := range [][]int{
		{1}, {-1}, {least}, {most}, {0, 1}, {1, 0}, {5, -5}, {0, least, least}, {least, most, 1}, {most, least, -1}, {-2, most, most}, {-4, most, most, most, most}, {0, least, least, least, least}, {2, least, least, 2},
		append([]int{0}, slices.Repeat([]int{least}, 72)...), append([]int{-72}, slices.Repeat([]int{most}, 72)...), append([]int{0}, slices.Repeat([]int{1 << 62}, 4)...),
	} {
		s := amounts(c[0], c[1:]...)
		rejects(t, fmt.Sprint("P10: ", c), s.text(), s.head(), api.ErrFalse)
	}
}

func TestEachByteOfABundleChanged(t *testing.T) {
	eachShown(t, []api.History{example(), several()}, func(what string, s shown, text, head string) {
		for at := range len(text) {
			for b := range 256 {
				looksAs(t, fmt.Sprint("P10: ", b, " at ", at, ": ", what), text[:at]+number(b, 1)+text[at+1:], head)
			}
			looksAs(t, fmt.Sprint("P10: without the byte at ", at), text[:at]+text[at+1:], head)
			looksAs(t, fmt.Sprint("P10: with a byte more at ", at), text[:at]+"\x00"+text[at:], head)
		}
	})
}

// Bundles of one package under the head of another, or with the parts of another.
func TestBundlesOfOthers(t *testing.T) {
	var all, heads []string
	eachShown(t, append(fewHistories(), full()), func(what string, s shown, text, head string) {
		all, heads = append(all, text), append(heads, head)
	})
	for i, text := range all {
		for j, other := range all {
			looksAs(t, "P10: another's head", text, heads[j])
			looksAs(t, "P10: another's beginning", other[:3]+text[3:], heads[i])
			looksAs(t, "P10: another's header", text[:3]+other[3:19]+text[19:], heads[i])
			looksAs(t, "P10: another's path", text[:len(text)-4]+other[len(other)-4:], heads[i])
		}
	}
	if !slices.ContainsFunc(all, func(text string) bool { return strings.HasPrefix(text, "\x00\x00\x06") }) {
		t.Error("there is no bundle of six headers")
	}
}
