package num

import (
	"strconv"

	"prolix/api"
)

// Print is a number's digits, a - ahead of those of one below 0.
func Print(n int64) string { return strconv.FormatInt(n, 10) }

// Parse is the number of digits in a base; 2^63 is told as -2^63.
func Parse(s string, base int) (int64, api.Errno) {
	if base < 2 || base > 36 {
		return 0, api.ErrArg
	}
	if s == "" {
		return 0, api.ErrForm
	}
	const most = 1 << 63
	n, over := uint64(0), false
	for i := range len(s) {
		d := digit(s[i])
		if d >= base {
			return 0, api.ErrForm
		}
		// All bytes are looked at, though it is too great already: a byte that is no digit comes first.
		over = over || n > (most-uint64(d))/uint64(base)
		n = n*uint64(base) + uint64(d)
	}
	if over {
		return 0, api.ErrOver
	}
	return int64(n), api.OK
}

// digit is what a byte counts as one; 36, that is one in no base, if it is none.
func digit(c byte) int {
	switch {
	case '0' <= c && c <= '9':
		return int(c - '0')
	case 'a' <= c && c <= 'z':
		return int(c-'a') + 10
	case 'A' <= c && c <= 'Z':
		return int(c-'A') + 10
	}
	return 36
}
