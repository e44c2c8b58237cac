package lay

import "strings"

// Reader reads a text again, from its front on. Where the text runs out it reads what is left of it, and out of nothing the number 0: whoever has to know lays what was read down again, and holds that against the text.
type Reader struct {
	rest string
}

// Read reads a text.
func Read(text string) *Reader { return &Reader{rest: text} }

// Text reads some bytes, 0 and more. They are new memory, so that nothing holds on to the text.
func (r *Reader) Text(many int) string { return strings.Clone(r.take(many)) }

// One reads a number in one byte.
func (r *Reader) One() int { return int(r.number(1)) }

// Eight reads a number in eight bytes.
func (r *Reader) Eight() int64 { return int64(r.number(8)) }

func (r *Reader) take(many int) string {
	many = min(many, len(r.rest))
	text := r.rest[:many]
	r.rest = r.rest[many:]
	return text
}

func (r *Reader) number(size int) uint64 {
	var n uint64
	for _, b := range []byte(r.take(size)) {
		n = n<<8 | uint64(b)
	}
	return n
}
