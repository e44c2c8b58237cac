package lay_test

import (
	"testing"

	"signet/lay"
)

func TestNumbersHaveTheHighestByteFirst(t *testing.T) {
	for n := range 256 {
		if got, want := lay.One(n), string([]byte{byte(n)}); got != want {
			t.Errorf("'Words': One(%d) = %q", n, got)
		}
	}
	for n, want := range map[int]string{0: "\x00\x00", 1: "\x00\x01", 72: "\x00\x48", 255: "\x00\xff", 256: "\x01\x00", 258: "\x01\x02", 65535: "\xff\xff"} {
		if got := lay.Two(n); got != want {
			t.Errorf("'Words': Two(%d) = %q, want %q", n, got, want)
		}
	}
	for n, want := range map[int64]string{
		0: "\x00\x00\x00\x00\x00\x00\x00\x00", 5: "\x00\x00\x00\x00\x00\x00\x00\x05", -5: "\xff\xff\xff\xff\xff\xff\xff\xfb", -1: "\xff\xff\xff\xff\xff\xff\xff\xff",
		0x0102030405060708: "\x01\x02\x03\x04\x05\x06\x07\x08", 1<<63 - 1: "\x7f\xff\xff\xff\xff\xff\xff\xff", -1 << 63: "\x80\x00\x00\x00\x00\x00\x00\x00", -0x0102030405060708: "\xfe\xfd\xfc\xfb\xfa\xf9\xf8\xf8",
	} {
		if got := lay.Eight(n); got != want {
			t.Errorf("'Words': Eight(%d) = %q, want %q", n, got, want)
		}
	}
}
