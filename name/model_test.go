package name_test

import (
	"regexp"
	"strconv"
	"strings"
	"testing"

	"prolix/api"
)

// item is a sort of thing that stands ahead of the quote that ends, and what is read of it (false: nothing may be).
type item struct {
	form *regexp.Regexp
	read func(s string) (string, bool)
}

// items are those that the document names behind one of the three quotes; no two fit at one place.
func items(quote string) []item {
	form := func(s string) *regexp.Regexp {
		return regexp.MustCompile(`(?s)\A(?:` + strings.ReplaceAll(s, "QUOTE", quote) + `)`)
	}
	as := func(b string) func(string) (string, bool) {
		return func(string) (string, bool) { return b, true }
	}
	number := func(base int) func(string) (string, bool) {
		return func(s string) (string, bool) {
			n, err := strconv.ParseUint(strings.Trim(s, `\x`), base, 64)
			return string([]byte{byte(n)}), err == nil && n < 256
		}
	}
	l := []item{
		{form(`QUOTEQUOTE`), as(quote)},
		{form(`\\x[0-9a-fA-F]+\\`), number(16)},
		{form(`\\[0-7]+\\`), number(8)},
		{form(`\\\n`), as("")},
		{form(`[^\\\nQUOTE]`), func(s string) (string, bool) { return s, true }},
	}
	for c, b := range map[string]string{"n": "\n", "r": "\r", "t": "\t", "a": "\a", "b": "\b", "f": "\f", "v": "\v", `\\`: `\`, `'`: `'`, `"`: `"`, "`": "`"} {
		l = append(l, item{form(`\\` + c), as(b)})
	}
	return l
}

// zero is the one escape that hangs on what stands behind it.
var zero = regexp.MustCompile(`(?s)\A\\0(?:\z|[^0-7\\])`)

// modelled reads s by patterns alone.
func modelled(s, quote string, l []item) got {
	text, n := "", 0
	for n < len(s) {
		if zero.MatchString(s[n:]) {
			text += "\x00"
			n += 2
			continue
		}
		end, ok := n, false
		for _, x := range l {
			if m := x.form.FindString(s[n:]); m != "" {
				var b string
				if b, ok = x.read(m); !ok {
					return lexError
				}
				text += b
				end = n + len(m)
				break
			}
		}
		if !ok && strings.HasPrefix(s[n:], quote) {
			return got{text, n + 1, api.OK}
		}
		if !ok {
			return lexError
		}
		n = end
	}
	return lexError
}

// TestP2_3Model holds Get against the patterns, at every short text of bytes that mean something.
func TestP2_3Model(t *testing.T) {
	for _, quote := range []string{"'", `"`, "`"} {
		l := items(quote)
		for alphabet, most := range map[string]int{quote + `\0n8`: 6, quote + `\x4fF2`: 6, quote + "\\\nz": 6, "'\"`\\ 1": 5} {
			strung(alphabet, most, func(s string) {
				s += quote
				if g, want := get(s, quote[0]), modelled(s, quote, l); g != want {
					t.Errorf("Get of %q: %v, want %v", s, g, want)
				}
			})
		}
	}
}
