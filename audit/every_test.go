package audit_test

// P1 and P2 at Prove, Look, Clash and ClashLine.

import (
	"fmt"
	"math/rand"
	"reflect"
	"slices"
	"strings"
	"testing"

	"signet/api"
	"signet/audit"
)

// refusesAll: with an error every other result is empty; which error it is, is told elsewhere.
func refusesAll(t *testing.T, text, other, head string, period, line int) {
	t.Helper()
	if b, e := audit.Prove(text, period, line); e != api.OK && b != "" {
		t.Errorf("P1: Prove(%.60q, %d, %d) = %q, %d", text, period, line, b, e)
	}
	if l, e := audit.Look(text, head); e != api.OK && !reflect.DeepEqual(l, api.Line{}) {
		t.Errorf("P1: Look(%.60q, %.20q) = %+v, %d", text, head, l, e)
	}
	if x, y, e := audit.Clash(text, other); e != api.OK && x+y != "" {
		t.Errorf("P1: Clash(%.60q, %.60q) = %q, %q, %d", text, other, x, y, e)
	}
	if x, y, e := audit.ClashLine(text, other, head); e != api.OK && x+y != "" {
		t.Errorf("P1: ClashLine(%.60q, %.60q, %.20q) = %q, %q, %d", text, other, head, x, y, e)
	}
}

// anyTexts are packages, bundles, and what is neither.
func anyTexts(t *testing.T) []string {
	texts := []string{"", "SIGN", "HEAD", exampleText, severalText, exampleText[:20], severalText + "\x00", strings.Repeat("\xff", 70)}
	eachShown(t, []api.History{example(), several()}, func(what string, s shown, text, head string) {
		texts = append(texts, text, text[:len(text)-1], s.changed(func(s *shown) { s.line.Total++ }).text(), s.changed(func(s *shown) { s.headers = nil }).text())
	})
	return texts
}

func TestAnErrorIsAllThatIsTold(t *testing.T) {
	texts := anyTexts(t)
	for _, text := range texts {
		for _, other := range texts {
			for _, head := range []string{"", exampleHead, severalHead, "xx", "\x00\x00"} {
				refusesAll(t, text, other, head, 0, 4)
				refusesAll(t, other, text, head, -1, 0)
			}
		}
	}
}

// A panic fails the test, and so does a call that does not end.
func TestAuditEndsAtAllTexts(t *testing.T) {
	for n := range 300 {
		for _, b := range []string{"\x00", "\x01", "\x02", "\x06", "\x48", "\x7f", "\x80", "\xff"} {
			all := strings.Repeat(b, n)
			for _, text := range []string{all, "SIGN" + all, "\x00\x00\x01" + all, "\x05\x03\x06" + all, "\x00\x00\x01HEAD\x00" + all} {
				refusesAll(t, text, all, all, n, n)
			}
		}
	}
	r := rand.New(rand.NewSource(17))
	texts := anyTexts(t)
	for range 3000 {
		text := []byte(texts[r.Intn(len(texts))])
		for range r.Intn(4) {
			if len(text) > 0 {
				text[r.Intn(len(text))] = byte(r.Intn(256))
			}
		}
		refusesAll(t, string(text), texts[r.Intn(len(texts))], exampleHead, r.Int()-r.Int(), r.Intn(5)-1)
		looksAs(t, "P10: any text", string(text), exampleHead)
		looksAs(t, "P10: any text", string(text), severalHead)
	}
	for _, b := range []string{"\x00", "\x05", "\xff"} {
		long := strings.Repeat(b, 1<<22)
		for _, text := range []string{long, "SIGN" + long, "\x00\x00\x01" + long, "\x00\x00\x06" + long} {
			refusesAll(t, text, text, long, 0, 0)
			refusesAll(t, exampleText, text, long, 0, 0)
		}
	}
}

func TestAuditEndsAtAllNumbers(t *testing.T) {
	for _, period := range append([]int{0, 1, 2, 3, 4, 5, 6}, numbersThatAreNone...) {
		for _, line := range append([]int{0, 1, 2, 3, 4}, numbersThatAreNone...) {
			want := api.OK
			if period < 0 || period > 3 || line < 0 || line > 3 {
				want = api.ErrArg
			}
			if b, e := audit.Prove(severalText, period, line); e != want || (b == "") != (want != api.OK) {
				t.Errorf("P1: Prove(.., %d, %d) = %q, %d, want %d", period, line, b, e, want)
			}
		}
	}
}

// The drills that come out are ruined, with their spare room, and gone on with: what came out of another call, ahead of it and behind it, is what it was.
func TestDrillsAreNewMemory(t *testing.T) {
	eachShown(t, someHistories(), func(what string, s shown, text, head string) {
		first, _ := audit.Look(text, head)
		second, _ := audit.Look(text, head)
		drills := first.Drills[:cap(first.Drills)]
		for i := range drills {
			drills[i] = api.Drill{Entry: 77, Place: 77, Account: 77, Amount: 77}
		}
		_ = append(first.Drills, api.Drill{Entry: 78}, api.Drill{Entry: 78})
		if !slices.Equal(second.Drills, s.line.Drills) {
			t.Errorf("P2: %s: two lists of drills share memory: %+v", what, second.Drills)
		}
		accepts(t, "P2: drills that came out were kept: "+what, text, head, s.line)
	})
}

// where tells the bytes of the memory in which a text lies.
func where(text string) (from, to uintptr) {
	from = reflect.ValueOf(text).Pointer()
	return from, from + uintptr(len(text))
}

// sharesWith: whether one of the texts that came out is memory of one of those that were handed in.
func sharesWith(out []string, in ...string) bool {
	for _, x := range out {
		for _, y := range in {
			a, b := where(x)
			from, to := where(y)
			if len(x) > 0 && a < to && from < b {
				return true
			}
		}
	}
	return false
}

func TestTextsAreNewMemory(t *testing.T) {
	for _, h := range someHistories() {
		text, _ := sealed(t, h)
		for line := range api.Lines {
			if b, _ := audit.Prove(text, 0, line); sharesWith([]string{b}, text) {
				t.Errorf("P2: a bundle is memory of its package: %.60q", text)
			}
		}
	}
	p, q := sealedAlike(t, "P2: charts", journals(2, 2), otherChart(journals(2, 2)))
	if x, y, _ := audit.Clash(p, q); sharesWith([]string{x, y}, p, q) || sharesWith([]string{x}, y) {
		t.Error("P2: texts that clash are memory of the packages")
	}
	s := showing(example(), 0, 0)
	b := s.text()
	for _, f := range forgeries(rand.New(rand.NewSource(18)), s) {
		c, head := f.text(), f.head()
		if x, y, _ := audit.ClashLine(b, c, head); sharesWith([]string{x, y}, b, c, head) || sharesWith([]string{x}, y) {
			t.Errorf("P2: texts that clash are memory of the bundles: %s", f.where)
		}
	}
}

func TestAuditIsTheSameEachTime(t *testing.T) {
	texts := anyTexts(t)
	p, q := sealedAlike(t, "P2: charts", journals(2, 2), otherChart(journals(2, 2)))
	texts = append(texts, p, q)
	type answers struct {
		proof, x, y, z, w string
		line              api.Line
		e, f, g, h        api.Errno
	}
	ask := func(text, other, head string) answers {
		var a answers
		a.proof, a.e = audit.Prove(text, 0, 1)
		a.line, a.f = audit.Look(text, head)
		a.x, a.y, a.g = audit.Clash(text, other)
		a.z, a.w, a.h = audit.ClashLine(text, other, head)
		return a
	}
	var first []answers
	for again := range 3 {
		k := 0
		for i, text := range texts {
			for _, head := range []string{exampleHead, severalHead} {
				a := ask(text, texts[(i*7+3)%len(texts)], head)
				if again == 0 {
					first = append(first, a)
				} else if !reflect.DeepEqual(a, first[k]) {
					t.Errorf("P2: %s: %+v, and at first %+v", fmt.Sprintf("%.60q", text), a, first[k])
				}
				k++
			}
		}
	}
}
