package name_test

import (
	"regexp"
	"strings"
	"testing"

	"prolix/name"
)

// plain is what the document calls Plain, as a pattern; what is left out stands in barred.
var plain = regexp.MustCompile(`\A(\[\]|!|;|\{\}|[a-z][a-zA-Z_0-9]*|[-+*/\\^<>=~:.?@#&$]+)\z`)
var barred = regexp.MustCompile(`\A(\.\z|/\*)`)

func wantPlain(s string) bool { return plain.MatchString(s) && !barred.MatchString(s) }

// strung gives every text of at most so many of these bytes.
func strung(alphabet string, most int, give func(string)) {
	var on func(s string)
	on = func(s string) {
		give(s)
		if len(s) == most {
			return
		}
		for i := range len(alphabet) {
			on(s + alphabet[i:i+1])
		}
	}
	on("")
}

func TestP2_1PlainTold(t *testing.T) {
	for _, s := range []string{
		"a", "z", "foo", "fooBar_9", "a_", "aA", "a0", "zZ_9z",
		"+", "-", "*", "/", "\\", "^", "<", ">", "=", "~", ":", "?", "@", "#", "&", "$",
		"..", "...", ".*", "./*", "*/", "//*", "/", "//", "/\\", ":-", "-->", "=..", "\\+", "=:=", "+/*", "-.", ".-",
		"[]", "!", ";", "{}",
	} {
		if !name.Plain(s) {
			t.Errorf("%q isn't plain", s)
		}
	}
	for _, s := range []string{
		"", " ", ".", ",", "|", "%", "(", ")", "[", "]", "{", "}", "()", "'", "\"", "`",
		"/*", "/**", "/*/", "/**/", "/*+",
		"Foo", "_", "_a", "9", "9a", "A", "a b", "a ", " a", "a-b", "a+", "+a", "a'", "it's", "a.b", "a\n", "\na",
		"[ ]", "[][]", "[]a", "{ }", "{}{}", "!!", ";;", "!;", ";!", "!a", "a!", "+!", "!+", ",,", "[],", "+,",
		"\x00", "a\x00", "a\x7f", "é", "aé", "\xff", "a\x80", "+\xe9",
	} {
		if name.Plain(s) {
			t.Errorf("%q is plain", s)
		}
	}
}

func TestP2_1PlainShort(t *testing.T) {
	all := make([]byte, 256)
	for c := range all {
		all[c] = byte(c)
	}
	for alphabet, most := range map[string]int{string(all): 2, "aZ_9+*/.[]{}!;, ": 5} {
		strung(alphabet, most, func(s string) {
			if got, want := name.Plain(s), wantPlain(s); got != want {
				t.Errorf("Plain of %q: %v, want %v", s, got, want)
			}
		})
	}
}

func TestP2_1PlainLong(t *testing.T) {
	for _, s := range []string{strings.Repeat("a", 1<<20), strings.Repeat("*/", 1<<19)} {
		if !name.Plain(s) {
			t.Errorf("%q.. isn't plain", s[:3])
		}
		if name.Plain(s + "\x00") {
			t.Errorf("%q.. with a byte 0 at its end is plain", s[:3])
		}
	}
}
