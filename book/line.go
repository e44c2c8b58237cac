package book

import (
	"signet/api"
	"signet/lay"
	"signet/sum"
)

// Line is a line of the statement, but for the number of the period, which the period does not know.
func (p Period) Line(line int) api.Line {
	return api.Line{Line: line, Total: int(p.totals[line].Int64()), Drills: p.drills(line)}
}

func (p Period) drills(line int) []api.Drill {
	var drills []api.Drill
	for entry, e := range p.entries {
		for place, one := range e.Postings {
			if p.accounts[one.Account].Line == line {
				drills = append(drills, api.Drill{Entry: entry, Place: place, Account: one.Account, Amount: one.Amount})
			}
		}
	}
	return drills
}

// Leaves are the leaves of the statement, one for each line.
func (p Period) Leaves() []string {
	var leaves []string
	for line := range p.totals {
		leaves = append(leaves, Leaf(p.Line(line)))
	}
	return leaves
}

// Leaf is a line's leaf in the statement.
func Leaf(line api.Line) string {
	return lay.One(line.Line) + Total(line) + sum.Root(DrillTexts(line.Drills))
}

// Total is a line's total and the number of its drills, as its leaf and a bundle have them.
func Total(line api.Line) string {
	return lay.Eight(int64(line.Total)) + lay.Two(len(line.Drills))
}

// DrillTexts are the texts of drills, in order.
func DrillTexts(drills []api.Drill) []string {
	var texts []string
	for _, d := range drills {
		texts = append(texts, lay.One(d.Entry)+lay.One(d.Place)+lay.One(d.Account)+lay.Eight(int64(d.Amount)))
	}
	return texts
}

// ReadDrill reads a drill.
func ReadDrill(r *lay.Reader) api.Drill {
	var d api.Drill
	d.Entry = r.One()
	d.Place = r.One()
	d.Account = r.One()
	d.Amount = int(r.Eight())
	return d
}
