package audit_test

import (
	"fmt"
	"strings"
	"testing"

	"signet/api"
	"signet/audit"
	"signet/seal"
)

// proves: Prove answers this.
func proves(t *testing.T, what, text string, period, line int, bundle string, want api.Errno) {
	t.Helper()
	if b, e := audit.Prove(text, period, line); b != bundle || e != want {
		t.Errorf("%s: Prove(%.60q, %d, %d) = %q, %d, want %q, %d", what, text, period, line, b, e, bundle, want)
	}
}

// sealed is the package and the head of a history that can be sealed.
func sealed(t *testing.T, h api.History) (text, head string) {
	t.Helper()
	text, head, e := seal.Seal(h)
	if e != api.OK {
		t.Fatalf("P5: a history can't be sealed: %d", e)
	}
	return text, head
}

// The bundle of the example's line 0, in its bytes.
func TestBundleOfTheExample(t *testing.T) {
	header := fromHex("48454144 00 0000") + seal.Sum("\x02\x01a\x00\x01b\x01") + "\x01" + seal.Root([]string{fromHex("01 6d 02 00 0000000000000005 01 fffffffffffffffb")})
	drill := fromHex("00 00 00 0000000000000005")
	leaves := []string{
		fromHex("00 0000000000000005 0001") + seal.Sum("\x00"+drill),
		fromHex("01 fffffffffffffffb 0001") + seal.Sum("\x00"+fromHex("00 01 01 fffffffffffffffb")),
		fromHex("02 0000000000000000 0000 1505"),
		fromHex("03 0000000000000000 0000 1505"),
	}
	left, right := seal.Root(leaves[:2]), seal.Root(leaves[2:])
	header += seal.Sum("\x01"+left+right) + seal.Sum(fromHex("0000000000000005 fffffffffffffffb"))
	if seal.Sum(header) != exampleHead {
		t.Fatalf("P6: the head of the example is %q", seal.Sum(header))
	}
	beside := func(line int) string { return seal.Sum("\x00" + leaves[line]) }
	proves(t, "P9: line 0", exampleText, 0, 0, "\x00\x00\x01"+header+fromHex("0000000000000005 0001")+drill+beside(1)+right, api.OK)
	proves(t, "P9: line 1", exampleText, 0, 1, "\x00\x01\x01"+header+fromHex("fffffffffffffffb 0001 00 01 01 fffffffffffffffb")+beside(0)+right, api.OK)
	proves(t, "P9: line 2, without drills", exampleText, 0, 2, "\x00\x02\x01"+header+fromHex("0000000000000000 0000")+beside(3)+left, api.OK)
	proves(t, "P9: line 3, without drills", exampleText, 0, 3, "\x00\x03\x01"+header+fromHex("0000000000000000 0000")+beside(2)+left, api.OK)
}

func TestEachLineOfEachPeriod(t *testing.T) {
	for k, h := range someHistories() {
		text, _ := sealed(t, h)
		for i := range h.Periods {
			for line := range api.Lines {
				want := showing(h, i, line)
				proves(t, fmt.Sprint("P9: history ", k), text, i, line, want.text(), api.OK)
				if length := 3 + 16*(len(h.Periods)-i) + 10 + 11*len(want.line.Drills) + 4; len(want.text()) != length {
					t.Errorf("P9: a bundle of %d bytes, want %d", len(want.text()), length)
				}
			}
		}
	}
}

// The number of the drills has two bytes, and they stand in order.
func TestAllPostingsInOneLine(t *testing.T) {
	text, _ := sealed(t, full())
	b, e := audit.Prove(text, 5, 0)
	if e != api.OK || len(b) != 3+16+10+11*72+4 || b[27:29] != "\x00\x48" {
		t.Fatalf("P9: %d bytes, %d", len(b), e)
	}
	for i := range 72 {
		if d := b[29+11*i:]; int(d[0]) != i/6 || int(d[1]) != i%6 {
			t.Errorf("P9: the drill %d is %q", i, d[:11])
		}
	}
	for line := 1; line < 4; line++ {
		proves(t, "P9: a line without drills beside it", text, 5, line, showing(full(), 5, line).text(), api.OK)
	}
}

var numbersThatAreNone = []int{-1, -2, -255, -256, -1 << 31, -1 << 32, least, least + 1, 255, 256, 257, 1 << 16, 1 << 31, 1 << 32, 1<<32 + 1, 1 << 62, most - 1, most}

func TestNoSuchPeriodOrLine(t *testing.T) {
	for _, h := range someHistories() {
		text, _ := sealed(t, h)
		many := len(h.Periods)
		for _, period := range append([]int{many, many + 1, 6, 7}, numbersThatAreNone...) {
			for _, line := range append([]int{0, 1, 2, 3, 4}, numbersThatAreNone...) {
				proves(t, "P9: no such period", text, period, line, "", api.ErrArg)
			}
		}
		for period := range h.Periods {
			for _, line := range append([]int{4, 5, 6, 7, 8}, numbersThatAreNone...) {
				proves(t, "P9: no such line", text, period, line, "", api.ErrArg)
			}
		}
	}
}

func TestNoPackageIsToldAheadOfNoLine(t *testing.T) {
	texts := []string{"", "SIGN", exampleText + "\x00", exampleText + exampleText, strings.Replace(exampleText, "\x05", "\x06", 1), strings.Replace(exampleText, "SIGN", "sign", 1)}
	for at := range len(exampleText) {
		texts = append(texts, exampleText[:at])
	}
	bundle, _ := audit.Prove(exampleText, 0, 0)
	for _, text := range append(texts, bundle) {
		for _, period := range []int{0, 1, -1, most, least} {
			for _, line := range []int{0, 3, 4, -1, most, least} {
				proves(t, "P9: no package", text, period, line, "", api.ErrForm)
			}
		}
	}
}
