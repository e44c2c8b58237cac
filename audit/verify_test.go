package audit_test

import (
	"encoding/hex"
	"fmt"
	"slices"
	"strings"
	"testing"

	"signet/api"
	"signet/audit"
	"signet/seal"
)

// fromHex leaves out what stands between the digits, so that a text can be told in its parts.
func fromHex(digits string) string {
	b, err := hex.DecodeString(strings.Join(strings.Fields(digits), ""))
	if err != nil {
		panic(err)
	}
	return string(b)
}

var (
	// The document's example.
	exampleText = fromHex(`5349474e 02 01 61 00 01 62 01 01 01
		01 6d 02 00 0000000000000005 01 fffffffffffffffb
		0000000000000005 fffffffffffffffb
		0000000000000005 fffffffffffffffb 0000000000000000 0000000000000000`)
	exampleHead = "\xde\x52"

	severalText, severalHead, _ = seal.Seal(several())
)

// several has four periods, the first and the last without entries.
func several() api.History {
	return api.History{
		Accounts: []api.Account{{Name: "\x00", Line: 3}, {Name: "cash\xff"}, {Name: "owed by us!!", Line: 1}},
		Periods: []api.Period{
			period(),
			period(entry("", 1, most, 2, -most), entry("\x00\xffmemo of 20 bytes..", 0, -300, 2, 256, 0, 44)),
			period(entry("back", 2, most-299, 1, -most+299)),
			period(),
		},
	}
}

// verifies: Verify answers of the text and the head this.
func verifies(t *testing.T, what, text, head string, want api.Errno) {
	t.Helper()
	if e := audit.Verify(text, head); e != want {
		t.Errorf("%s: Verify(%.200q, %.20q) = %d, want %d", what, text, head, e, want)
	}
}

// otherHeads are texts that are not that head.
func otherHeads(head string) []string {
	all := []string{
		"", head[:1], head[1:], head + "\x00", "\x00" + head, head + head[:1], head + head,
		"\x00\x00", "\xff\xff", head[1:] + head[:1], head[:1] + string([]byte{head[1] + 1}), string([]byte{head[0] ^ 0x80}) + head[1:],
		strings.Repeat(head, 1000),
	}
	return slices.DeleteFunc(all, func(other string) bool { return other == head })
}

func TestPackagesWithTheirHeads(t *testing.T) {
	for text, head := range map[string]string{exampleText: exampleHead, severalText: severalHead} {
		if text == "" {
			t.Fatal("P5: a history could not be sealed")
		}
		verifies(t, "P8: its head", text, head, api.OK)
		for _, other := range otherHeads(head) {
			verifies(t, "P8: another head", text, other, api.ErrFalse)
		}
	}
	verifies(t, "P8: another package's head", exampleText, severalHead, api.ErrFalse)
	verifies(t, "P8: another package's head", severalText, exampleHead, api.ErrFalse)
}

func TestOfAllHeadsOneIsRight(t *testing.T) {
	for n := range 1 << 16 {
		head := string([]byte{byte(n >> 8), byte(n)})
		want := api.ErrFalse
		if head == exampleHead {
			want = api.OK
		}
		verifies(t, "P8: all heads", exampleText, head, want)
	}
}

// Whatever of a history is another, what was sealed goes with its own head, which is that of no beginning of it.
func TestWhatWasSealedIsRight(t *testing.T) {
	for n := 1; n <= api.MaxPeriods; n++ {
		for amount := range 40 {
			h := api.History{Accounts: []api.Account{{Name: "a"}, {Name: "b", Line: 2}}}
			for i := range n {
				e := api.Entry{Memo: fmt.Sprint(amount, i), Postings: []api.Posting{{Account: 0, Amount: amount}, {Account: 1, Amount: -amount}}}
				h.Periods = append(h.Periods, api.Period{Entries: []api.Entry{e}})
			}
			text, head, _ := seal.Seal(h)
			verifies(t, "P8, P13: what was sealed", text, head, api.OK)
			for _, other := range otherHeads(head) {
				verifies(t, "P8: another head", text, other, api.ErrFalse)
			}
			longer, longerHead, errno := seal.Extend(text, api.Period{})
			if errno == api.OK {
				verifies(t, "P8, P13: what was extended", longer, longerHead, api.OK)
				verifies(t, "P8: the head ahead of the last period", longer, head, api.ErrFalse)
				verifies(t, "P8: the head behind a period more", text, longerHead, api.ErrFalse)
			}
		}
	}
}

// What is no package is told ahead of a head that is another.
func TestNoPackageIsToldFirst(t *testing.T) {
	unbalanced := strings.Replace(exampleText, fromHex("01 fffffffffffffffb"), fromHex("01 fffffffffffffffc"), 1)
	noAccount := strings.Replace(exampleText, fromHex("01 fffffffffffffffb"), fromHex("02 fffffffffffffffb"), 1)
	texts := []string{"", "SIGN", exampleText + "\x00", exampleText + exampleText, strings.Repeat("\xff", 9000), unbalanced, noAccount, exampleHead, "HEAD"}
	for at := range exampleText {
		texts = append(texts, exampleText[:at], exampleText[at+1:])
	}
	for _, text := range texts {
		for _, head := range append(otherHeads(exampleHead), exampleHead) {
			verifies(t, "P8: no package", text, head, api.ErrForm)
		}
	}
}

// A byte that is changed makes another package or none: what is told is the same as what Decode and Seal tell of it.
func TestEachByteChanged(t *testing.T) {
	for at := range len(exampleText) {
		for b := range 256 {
			text := exampleText[:at] + string([]byte{byte(b)}) + exampleText[at+1:]
			h, want := seal.Decode(text)
			if want == api.OK {
				if _, head, _ := seal.Seal(h); head != exampleHead {
					want = api.ErrFalse
				}
			}
			verifies(t, fmt.Sprint("P8: ", b, " at ", at), text, exampleHead, want)
		}
	}
	name := strings.Replace(exampleText, "\x01a\x00", "\x01c\x00", 1)
	memo := strings.Replace(exampleText, "\x01m", "\x01n", 1)
	verifies(t, "P8: another name", name, exampleHead, api.ErrFalse)
	verifies(t, "P8: another memo", memo, exampleHead, api.ErrFalse)
}

// P1 and P2 at Verify: a panic fails the test, and so does a call that does not end.
func TestVerifyEndsAndIsTheSameEachTime(t *testing.T) {
	for n := range 300 {
		for _, b := range []string{"\x00", "\x01", "\xff"} {
			verifies(t, "P1", strings.Repeat(b, n), strings.Repeat(b, n%5), api.ErrForm)
			verifies(t, "P1", "SIGN"+strings.Repeat(b, n), "", api.ErrForm)
		}
		verifies(t, "P2: each time", severalText, severalHead, api.OK)
		verifies(t, "P2: each time", severalText, exampleHead, api.ErrFalse)
	}
	verifies(t, "P1", strings.Repeat("SIGN", 1<<20), strings.Repeat("HEAD", 1<<20), api.ErrForm)
	verifies(t, "P1", exampleText, strings.Repeat("HEAD", 1<<20), api.ErrFalse)
}
