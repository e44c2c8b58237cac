// Package lay: numbers laid down in bytes, the highest first, and read again: see DOC.md, 'Words'.
package lay

// One is a number of 0 to 255 in one byte.
func One(n int) string { return string([]byte{byte(n)}) }

// Two is a number of 0 to 65535 in two bytes.
func Two(n int) string { return string([]byte{byte(n >> 8), byte(n)}) }

// Eight is a number of 64 bits in eight bytes, in two's complement.
func Eight(n int64) string {
	var b [8]byte
	for i := range b {
		b[i] = byte(n >> (8 * (len(b) - 1 - i)))
	}
	return string(b[:])
}
