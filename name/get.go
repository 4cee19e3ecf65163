package name

import (
	"strconv"
	"strings"

	"prolix/api"
)

// Get is what is read behind a quote up to the next one that isn't doubled, and how many bytes that took, with it.
func Get(s string, quote byte) (string, int, api.Errno) {
	r := reader{left: s}
	for r.left != "" {
		c := r.left[0]
		switch {
		case c == quote && !r.doubled():
			return string(r.got), len(s) - len(r.left) + 1, api.OK
		case c == quote: // ahead of \ and 10: the quote may be either
			r.take(2, c)
		case c == '\\':
			if !r.escape() {
				return "", 0, api.ErrLex
			}
		case c == '\n':
			return "", 0, api.ErrLex
		default:
			r.take(1, c)
		}
	}
	return "", 0, api.ErrLex
}

// reader is what is left of a text, and the bytes that were got from what is read.
type reader struct {
	left  string
	got   []byte
	bytes map[byte]byte // made at the first escape: most texts have none
}

// take goes on by n bytes, of which these were got.
func (r *reader) take(n int, got ...byte) {
	r.left = r.left[n:]
	r.got = append(r.got, got...)
}

func (r *reader) doubled() bool { return len(r.left) > 1 && r.left[1] == r.left[0] }

// escape reads the one that begins here; false, if it is none.
func (r *reader) escape() bool {
	if len(r.left) < 2 {
		return false
	}
	c := r.left[1]
	switch {
	case c == '\n':
		r.take(2)
		return true
	case c == 'x':
		return r.number(2, 16)
	case octal(c) && !r.zero():
		return r.number(1, 8)
	}
	if r.bytes == nil {
		r.bytes = escapes()
	}
	b, ok := r.bytes[c]
	if ok {
		r.take(2, b)
	}
	return ok
}

// zero says whether a 0 stands behind the \ here that isn't the first digit of a number.
func (r *reader) zero() bool {
	if r.left[1] != '0' {
		return false
	}
	return len(r.left) < 3 || !octal(r.left[2]) && r.left[2] != '\\'
}

// number reads the digits that begin so many bytes from here, and the \ behind them.
func (r *reader) number(from, base int) bool {
	digits := strings.IndexByte(r.left[from:], '\\')
	if digits < 0 {
		return false
	}
	// 8 bits: of no digits, of other bytes, and of a number above 255 it is an error.
	n, err := strconv.ParseUint(r.left[from:from+digits], base, 8)
	if err != nil {
		return false
	}
	r.take(from+digits+1, byte(n))
	return true
}

func octal(c byte) bool { return '0' <= c && c <= '7' }

// escapes are what may stand behind a \, with the byte that it is, but for numbers and a byte 10.
func escapes() map[byte]byte {
	return map[byte]byte{
		'n': 10, 'r': 13, 't': 9, 'a': 7, 'b': 8, 'f': 12, 'v': 11, '0': 0,
		'\\': '\\', '\'': '\'', '"': '"', '`': '`',
	}
}
