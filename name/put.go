package name

import (
	"strconv"
	"strings"
)

// Put is how an atom is written.
func Put(s string) string {
	if Plain(s) {
		return strings.Clone(s) // an answer shares no memory with an argument
	}
	letters := written()
	out := []byte{'\''}
	for i := range len(s) {
		c := s[i]
		letter, ok := letters[c]
		switch {
		case ok:
			out = append(out, '\\', letter)
		case c < 32 || c == 127:
			out = append(out, '\\', 'x')
			out = strconv.AppendUint(out, uint64(c), 16)
			out = append(out, '\\')
		default:
			out = append(out, c)
		}
	}
	return string(append(out, '\''))
}

// written are the bytes that Put writes by an escape, with what stands behind its \; fewer than Get reads.
func written() map[byte]byte {
	return map[byte]byte{'\'': '\'', '\\': '\\', 10: 'n', 9: 't'}
}
