package audit_test

// Bundles that Look accepts under a head although no package of that head has their line. Sums are so short that they are found by trying.

import (
	"fmt"
	"math/rand"

	"signet/api"
	"signet/seal"
)

// forged is a bundle, and where in it the clash with the right one lies.
type forged struct {
	where string
	shown
}

// forgeries are bundles of the same period and line, under the same head.
func forgeries(r *rand.Rand, s shown) []forged {
	var list []forged
	for at := range s.headers {
		list = append(list, forged{fmt.Sprint("in header ", at), forgeHeader(s.withLine(randomLine(r, s.line)), at, s.headers[at].sum())})
	}
	for many := 1; many <= api.MaxPeriods; many++ {
		list = append(list, forged{fmt.Sprint("headers: ", many), forgeHeaders(s.withLine(randomLine(r, s.line)), many, s.head())})
	}
	list = append(list,
		forged{"in the root", forgeRoot(r, s)},
		forged{"in the node below the root", forgeNode(r, s)},
		forged{"in the leaf", forgeLeaf(r, s)},
	)
	if len(s.line.Drills) > 0 && len(s.line.Drills) < 10 {
		list = append(list, forged{"in the drills", forgeDrills(r, s)}, forged{"in a drill", forgeDrill(r, s)})
	}
	return list
}

func (s shown) withLine(line api.Line) shown {
	return s.changed(func(s *shown) { s.line = line })
}

// randomLine has the same period and line, and other drills, which are its total.
func randomLine(r *rand.Rand, line api.Line) api.Line {
	line.Total, line.Drills = 0, nil
	for range 1 + r.Intn(4) {
		d := api.Drill{Entry: r.Intn(256), Place: r.Intn(256), Account: r.Intn(256), Amount: (r.Int() >> r.Intn(63)) / 8}
		line.Total += d.Amount
		line.Drills = append(line.Drills, d)
	}
	return line
}

// forgeHeader leads from the line and path to a header of that sum; what stands behind it stays.
func forgeHeader(s shown, at int, want string) shown {
	rooted := s.rooted()
	return rooted.changed(func(s *shown) {
		for i := 1; i <= at; i++ {
			s.headers[i].ahead = s.headers[i-1].sum()
		}
		h := &s.headers[at]
		for n := 0; h.sum() != want; n++ { // a byte counts 33 times as much as the next one
			h.chart, h.entries = number(n/33/33, 1)+number(n/33%33, 1), n%33
		}
	})
}

// forgeHeaders has so many headers.
func forgeHeaders(s shown, many int, head string) shown {
	return forgeHeader(s.changed(func(s *shown) {
		first := s.headers[0]
		s.headers = nil
		for i := range many {
			first.number = s.line.Period + i
			s.headers = append(s.headers, first)
		}
	}), many-1, head)
}

// below is the root of the half of the statement in which the line stands.
func (s shown) below() string {
	root, _ := seal.Climb(leafOf(s.line), s.line.Line%2, 2, s.path[:1])
	return root
}

// top is the root of the statement.
func (s shown) top() string {
	root, _ := seal.Climb(leafOf(s.line), s.line.Line, api.Lines, s.path)
	return root
}

// forgeRoot has another half of the statement, and another beside it, with the same root.
func forgeRoot(r *rand.Rand, s shown) shown {
	for {
		other := s.withLine(randomLine(r, s.line))
		for n := range 256 * 33 {
			if other.path[1] = number(n/33, 1) + number(n%33, 1); other.top() == s.top() && other.below() != s.below() {
				return other
			}
		}
	}
}

// forgeNode has another leaf, and another beside it, with the same root of this half of the statement.
func forgeNode(r *rand.Rand, s shown) shown {
	for {
		other := s.withLine(randomLine(r, s.line))
		for n := range 256 * 33 {
			if other.path[0] = number(n/33, 1) + number(n%33, 1); other.below() == s.below() && leafSum(other.line) != leafSum(s.line) {
				return other
			}
		}
	}
}

func leafSum(line api.Line) string { return seal.Sum("\x00" + leafOf(line)) }

// forgeLeaf has another line, with the same sum of its leaf.
func forgeLeaf(r *rand.Rand, s shown) shown {
	for {
		if other := randomLine(r, s.line); leafSum(other) == leafSum(s.line) && leafOf(other) != leafOf(s.line) {
			return s.withLine(other)
		}
	}
}

// forgeDrills has as many other drills, with the same total and the same root.
func forgeDrills(r *rand.Rand, s shown) shown {
	for root := seal.Root(drillTexts(s.line.Drills)); ; {
		other := s.changed(func(s *shown) {
			for i, d := range s.line.Drills {
				by := r.Intn(1 << 20)
				s.line.Drills[i].Entry = r.Intn(256)
				s.line.Drills[i].Amount += by
				s.line.Drills[len(s.line.Drills)-1].Amount -= by
				s.line.Drills[i].Place, s.line.Drills[i].Account = d.Place^r.Intn(256), r.Intn(256)
			}
		})
		if seal.Root(drillTexts(other.line.Drills)) == root {
			return other
		}
	}
}

// forgeDrill has in the place of one drill another, of the same amount and sum.
func forgeDrill(r *rand.Rand, s shown) shown {
	at := r.Intn(len(s.line.Drills))
	was := drillText(s.line.Drills[at])
	for {
		other := s.changed(func(s *shown) {
			d := &s.line.Drills[at]
			d.Entry, d.Place, d.Account = r.Intn(256), r.Intn(256), r.Intn(256)
		})
		if text := drillText(other.line.Drills[at]); text != was && seal.Sum("\x00"+text) == seal.Sum("\x00"+was) {
			return other
		}
	}
}
