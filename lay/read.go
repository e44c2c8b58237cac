package lay

import "strings"

// Reader reads a text again, from its front on. Where the text runs out it reads what is left of it, and out of nothing the number 0: whoever has to know asks at the end, or lays what was read down again, and holds that against the text.
type Reader struct {
	rest    string
	lacking bool // more was asked for than there was
}

// Read reads a text.
func Read(text string) *Reader { return &Reader{rest: text} }

// Text reads some bytes, 0 and more. They are new memory, so that nothing holds on to the text.
func (r *Reader) Text(many int) string { return strings.Clone(r.take(many)) }

// One reads a number in one byte.
func (r *Reader) One() int { return int(r.number(1)) }

// Two reads a number in two bytes.
func (r *Reader) Two() int { return int(r.number(2)) }

// Eight reads a number in eight bytes.
func (r *Reader) Eight() int64 { return int64(r.number(8)) }

// IsThrough: whether what was read is the text, and nothing more or less.
func (r *Reader) IsThrough() bool { return r.rest == "" && !r.lacking }

// List reads so many of a kind, or up to that at which the text runs out: so a short text that tells of many costs no more than it is long.
func List[E any](r *Reader, many int, read func(*Reader) E) []E {
	var list []E
	for len(list) < many && !r.lacking {
		list = append(list, read(r))
	}
	return list
}

func (r *Reader) take(many int) string {
	if many > len(r.rest) {
		many, r.lacking = len(r.rest), true
	}
	text := r.rest[:many]
	r.rest = r.rest[many:]
	return text
}

func (r *Reader) number(size int) uint64 {
	var n uint64
	for _, b := range []byte(r.take(size)) {
		n = n<<8 | uint64(b)
	}
	return n
}
