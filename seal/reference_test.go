package seal_test

import (
	"encoding/binary"
	"math/big"
	"testing"

	"signet/api"
	"signet/seal"
)

const (
	most  = 1<<63 - 1
	least = -1 << 63
)

// entry has accounts and amounts by turns.
func entry(memo string, pairs ...int) api.Entry {
	e := api.Entry{Memo: memo}
	for i := 0; i < len(pairs); i += 2 {
		e.Postings = append(e.Postings, api.Posting{Account: pairs[i], Amount: pairs[i+1]})
	}
	return e
}

func period(entries ...api.Entry) api.Period { return api.Period{Entries: entries} }

// example is the history of the document's example.
func example() api.History {
	return api.History{
		Accounts: []api.Account{{Name: "a", Line: 0}, {Name: "b", Line: 1}},
		Periods:  []api.Period{period(entry("m", 0, 5, 1, -5))},
	}
}

// refNumber is a number in eight bytes, or in less.
func refNumber(n, size int) string {
	return string(binary.BigEndian.AppendUint64(nil, uint64(n))[8-size:])
}

func refChart(accounts []api.Account) string {
	text := refNumber(len(accounts), 1)
	for _, a := range accounts {
		text += refNumber(len(a.Name), 1) + a.Name + refNumber(a.Line, 1)
	}
	return text
}

func refEntry(e api.Entry) string {
	text := refNumber(len(e.Memo), 1) + e.Memo + refNumber(len(e.Postings), 1)
	for _, p := range e.Postings {
		text += refNumber(p.Account, 1) + refNumber(p.Amount, 8)
	}
	return text
}

// refLedger has each sum as the sum of all that came so far, added up anew each time it is asked.
type refLedger struct {
	h api.History
}

// came are the amounts of the first periods (through last) that came to accounts for which of holds; of the last one the first entries alone.
func (l refLedger) came(first, last, entries int, of func(account int) bool) *big.Int {
	total := new(big.Int)
	for i := first; i <= last; i++ {
		for j, e := range l.h.Periods[i].Entries {
			if i == last && j >= entries {
				continue
			}
			for _, p := range e.Postings {
				if of(p.Account) {
					total.Add(total, big.NewInt(int64(p.Amount)))
				}
			}
		}
	}
	return total
}

func (l refLedger) balance(account, period, entries int) *big.Int {
	return l.came(0, period, entries, func(a int) bool { return a == account })
}

func (l refLedger) total(line, period int) *big.Int {
	return l.came(period, period, most, func(a int) bool { return l.inLine(a, line) })
}

func (l refLedger) inLine(account, line int) bool {
	return account >= 0 && account < len(l.h.Accounts) && l.h.Accounts[account].Line == line
}

// in64 is a sum as it wraps round, if it is none of the numbers of 64 bits.
func in64(sum *big.Int) int {
	low := new(big.Int).And(sum, new(big.Int).SetUint64(1<<64-1))
	return int(low.Uint64())
}

// wrong is P5's first thing that is wrong in a history that is in bounds.
func (l refLedger) wrong() api.Errno {
	for i, p := range l.h.Periods {
		for j, e := range p.Entries {
			together := new(big.Int)
			for _, one := range e.Postings {
				if one.Account < 0 || one.Account >= len(l.h.Accounts) {
					return api.ErrAccount
				}
				together.Add(together, big.NewInt(int64(one.Amount)))
			}
			if together.Sign() != 0 {
				return api.ErrBalance
			}
			for a := range l.h.Accounts {
				if !l.balance(a, i, j+1).IsInt64() {
					return api.ErrOverflow
				}
			}
		}
		for line := range api.Lines {
			if !l.total(line, i).IsInt64() {
				return api.ErrOverflow
			}
		}
	}
	return api.OK
}

func (l refLedger) balances(period int) string {
	text := ""
	for a := range l.h.Accounts {
		text += refNumber(in64(l.balance(a, period, most)), 8)
	}
	return text
}

func (l refLedger) leaf(line, period int) string {
	var drills []string
	for i, e := range l.h.Periods[period].Entries {
		for j, p := range e.Postings {
			if l.inLine(p.Account, line) {
				drills = append(drills, refNumber(i, 1)+refNumber(j, 1)+refNumber(p.Account, 1)+refNumber(p.Amount, 8))
			}
		}
	}
	return refNumber(line, 1) + refNumber(in64(l.total(line, period)), 8) + refNumber(len(drills), 2) + refRoot(drills)
}

// refSeal is P5 and P6 told once more, of a history that is in bounds.
func refSeal(h api.History) (text, head string, errno api.Errno) {
	if e := (refLedger{h}).wrong(); e != api.OK {
		return "", "", e
	}
	text, head = refLay(h)
	return text, head, api.OK
}

// refLay lays down any history as if it were one that can be sealed: what does not fit into its bytes wraps round.
func refLay(h api.History) (text, head string) {
	l := refLedger{h}
	text, head = "SIGN"+refChart(h.Accounts)+refNumber(len(h.Periods), 1), "\x00\x00"
	for i, p := range h.Periods {
		var entries, leaves []string
		text += refNumber(len(p.Entries), 1)
		for _, e := range p.Entries {
			text += refEntry(e)
			entries = append(entries, refEntry(e))
		}
		text += l.balances(i)
		for line := range api.Lines {
			text += refNumber(in64(l.total(line, i)), 8)
			leaves = append(leaves, l.leaf(line, i))
		}
		head = refSum("HEAD" + refNumber(i, 1) + head + refSum(refChart(h.Accounts)) + refNumber(len(p.Entries), 1) + refRoot(entries) + refRoot(leaves) + refSum(l.balances(i)))
	}
	return text, head
}

// seals: Seal answers of h what these are.
func seals(t *testing.T, what string, h api.History, text, head string, want api.Errno) {
	t.Helper()
	p, s, e := seal.Seal(h)
	if p != text || s != head || e != want {
		t.Errorf("%s: Seal = %q, %q, %d, want %q, %q, %d", what, p, s, e, text, head, want)
	}
}

// refuses: Seal answers of h this error, and nothing else.
func refuses(t *testing.T, what string, h api.History, want api.Errno) {
	t.Helper()
	seals(t, what, h, "", "", want)
}

// agrees: Seal answers of h what the reference does, and that has this error or none.
func agrees(t *testing.T, what string, h api.History, want api.Errno) {
	t.Helper()
	text, head, errno := refSeal(h)
	if errno != want {
		t.Fatalf("%s: the reference tells %d, the test %d", what, errno, want)
	}
	seals(t, what, h, text, head, want)
}
