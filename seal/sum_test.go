package seal_test

import (
	"strings"
	"testing"

	"signet/api"
	"signet/seal"
)

// refSum is P3 told once more, in numbers that do not wrap for any text of these tests.
func refSum(text string) string {
	h := uint64(5381)
	for _, c := range []byte(text) {
		h = (33*h + uint64(c) + 1) % 65521
	}
	return string([]byte{byte(h / 256), byte(h % 256)})
}

// bytesUpTo is the text of the bytes 0 to n.
func bytesUpTo(n int) string {
	var b []byte
	for i := range n + 1 {
		b = append(b, byte(i))
	}
	return string(b)
}

func TestSumOfKnownTexts(t *testing.T) {
	for _, c := range []struct{ text, want string }{
		{"", "\x15\x05"}, // the document's examples
		{"\x00", "\xb5\xc4"},
		{"\x01", "\xb5\xc5"},
		{"a", "\xb6\x25"},
		{"\x7f", "\xb6\x43"},
		{"\x80", "\xb6\x44"},
		{"\xfe", "\xb6\xc2"},
		{"\xff", "\xb6\xc3"},
		{"ab", "\x7c\x81"},
		{"ba", "\x7c\xa1"}, // the order of the bytes counts
		{"\x00\x00", "\x6f\x9e"},
		{"\x1d\xf4\xee", "\xff\xf0"}, // the greatest sum, Mod - 1
		{"\x1d\xf4\xef", "\x00\x00"}, // and the least
		{"\xff\xff\xff\xff", "\x26\xc1"},
		{"äöü€", "\x6f\xd8"}, // bytes, not runes
		{"\xc3", "\xb6\x87"},
		{bytesUpTo(255), "\x80\x95"},
		{strings.Repeat("x", 5000), "\x3c\x32"},
		{strings.Repeat("\xff", 100000), "\x72\x33"},
	} {
		if s := seal.Sum(c.text); s != c.want {
			t.Errorf("P3: Sum(%.20q) = %q, want %q", c.text, s, c.want)
		}
	}
}

func TestSumOfEachByte(t *testing.T) {
	for i := range 256 {
		for _, text := range []string{string([]byte{byte(i)}), bytesUpTo(i), "x" + string([]byte{byte(i), byte(i)})} {
			if s := seal.Sum(text); s != refSum(text) {
				t.Errorf("P3: Sum(%q) = %q, want %q", text, s, refSum(text))
			}
		}
	}
}

func TestSumIsOneBelowMod(t *testing.T) {
	text := ""
	for i := range 3000 {
		s := seal.Sum(text)
		if len(s) != 2 || int(s[0])*256+int(s[1]) >= api.Mod || s != refSum(text) {
			t.Fatalf("P3: Sum of %d bytes = %q, want %q", len(text), s, refSum(text))
		}
		text += string([]byte{byte(i * 37)})
	}
}
