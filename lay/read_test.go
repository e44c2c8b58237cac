package lay_test

import (
	"testing"

	"signet/lay"
)

func TestWhatWasLaidIsRead(t *testing.T) {
	numbers := []int64{0, 1, -1, 5, -5, 255, 256, 1<<63 - 1, -1 << 63, 0x0102030405060708, -0x0102030405060708}
	text := ""
	for i, n := range numbers {
		text += lay.One(i) + lay.Eight(n) + "ab\x00"
	}
	r := lay.Read(text)
	for i, n := range numbers {
		if got := r.One(); got != i {
			t.Errorf("One, laid as %d = %d", i, got)
		}
		if got := r.Eight(); got != n {
			t.Errorf("Eight, laid as %d = %d", n, got)
		}
		if a, b, c := r.Text(2), r.Text(0), r.Text(1); a != "ab" || b != "" || c != "\x00" {
			t.Errorf("Text = %q, %q, %q", a, b, c)
		}
	}
	for n := range 256 {
		if got := lay.Read(lay.One(n)).One(); got != n {
			t.Errorf("One, laid as %d = %d", n, got)
		}
	}
}

func TestTextsThatRunOut(t *testing.T) {
	r := lay.Read("abc\x01\x02")
	if got := r.Text(3); got != "abc" {
		t.Errorf("Text(3) = %q", got)
	}
	if got := r.Eight(); got != 0x0102 {
		t.Errorf("Eight out of two bytes = %d", got)
	}
	for range 3 {
		if a, b, c := r.One(), r.Eight(), r.Text(255); a != 0 || b != 0 || c != "" {
			t.Errorf("out of nothing: %d, %d, %q", a, b, c)
		}
	}
	if got := lay.Read("ab").Text(3); got != "ab" {
		t.Errorf("Text(3) out of two bytes = %q", got)
	}
}

func TestNumbersInTwoBytesAreRead(t *testing.T) {
	for n := range 1 << 16 {
		if got := lay.Read(lay.Two(n)).Two(); got != n {
			t.Errorf("Two, laid as %d = %d", n, got)
		}
	}
}

func TestThroughIsNotMoreAndNotLess(t *testing.T) {
	for n := range 5 {
		r := lay.Read("abc")
		r.Text(n)
		if got := r.IsThrough(); got != (n == 3) {
			t.Errorf("IsThrough behind %d of 3 bytes = %t", n, got)
		}
	}
	r := lay.Read("")
	if !r.IsThrough() || r.One() != 0 || r.IsThrough() {
		t.Error("a text of nothing is through until something is read")
	}
	r = lay.Read("a")
	if r.Two(); r.IsThrough() {
		t.Error("one byte is not through behind two")
	}
}

func TestListsAreNoLongerThanTheirText(t *testing.T) {
	one := (*lay.Reader).One
	for many, want := range map[int]int{0: 0, 1: 1, 3: 3, 4: 4, 5: 4, 1 << 40: 4} { // what runs out is read too, so that it is told
		r := lay.Read("abc")
		if got := lay.List(r, many, one); len(got) != want || r.IsThrough() != (many == 3) {
			t.Errorf("a list of %d out of 3 bytes = %d", many, got)
		}
	}
}
