package name_test

import (
	"fmt"
	"strings"
	"testing"
	"unsafe"

	"prolix/name"
)

func TestP2_2Told(t *testing.T) {
	for s, want := range map[string]string{
		"foo":       "foo",
		"Foo":       "'Foo'",
		"[]":        "[]",
		"{}":        "{}",
		"!":         "!",
		";":         ";",
		"it's":      `'it\'s'`,
		"":          "''",
		",":         "','",
		"|":         "'|'",
		".":         "'.'",
		"..":        "..",
		"\\":        "\\",
		"\\+":       "\\+",
		"/*":        "'/*'",
		"'":         `'\''`,
		"''":        `'\'\''`,
		"\"":        `'"'`,
		"`":         "'`'",
		"a\\b":      `'a\\b'`,
		"\\ ":       `'\\ '`,
		"a b":       "'a b'",
		"a\nb":      `'a\nb'`,
		"\t":        `'\t'`,
		"\r":        `'\xd\'`,
		"\a\b\v\f":  `'\x7\\x8\\xb\\xc\'`,
		"\x00":      `'\x0\'`,
		"\x001":     `'\x0\1'`,
		"\x1f":      `'\x1f\'`,
		"\x10":      `'\x10\'`,
		"\x0f":      `'\xf\'`,
		"\x7f":      `'\x7f\'`,
		"\x80":      "'\x80'",
		"\xff":      "'\xff'",
		"Éa":        "'Éa'",
		"hello\\x":  `'hello\\x'`,
		"[]'\n\\ x": `'[]\'\n\\ x'`,
	} {
		if got := name.Put(s); got != want {
			t.Errorf("Put of %q: %s, want %s", s, got, want)
		}
	}
}

// wantByte is what stands in quotes for one byte.
func wantByte(c byte) string {
	switch {
	case c == 39:
		return `\'`
	case c == 92:
		return `\\`
	case c == 10:
		return `\n`
	case c == 9:
		return `\t`
	case c < 32, c == 127:
		return fmt.Sprintf(`\x%x\`, c)
	}
	return string([]byte{c})
}

func TestP2_2Bytes(t *testing.T) {
	for c := range 256 {
		s := string([]byte{'X', byte(c), 'y'})
		if got, want := name.Put(s), "'X"+wantByte(byte(c))+"y'"; got != want {
			t.Errorf("Put of %q: %s, want %s", s, got, want)
		}
	}
}

// TestP2_2Plain: what is plain is written as it is, all else in quotes.
func TestP2_2Plain(t *testing.T) {
	strung("aZ_9+*/.\\[]{}!;,' \n", 4, func(s string) {
		got := name.Put(s)
		if wantPlain(s) && got != s {
			t.Errorf("Put of %q: %s", s, got)
		}
		if !wantPlain(s) && (!strings.HasPrefix(got, "'") || !strings.HasSuffix(got, "'") || len(got) < 2) {
			t.Errorf("Put of %q: %s, in no quotes", s, got)
		}
	})
}

func TestP2_2Long(t *testing.T) {
	s := strings.Repeat("it's\n", 1<<18)
	if got, want := name.Put(s), "'"+strings.Repeat(`it\'s\n`, 1<<18)+"'"; got != want {
		t.Error("a long one isn't written right")
	}
}

// TestP2_2New: an answer shares no memory with what was handed in.
func TestP2_2New(t *testing.T) {
	for _, s := range []string{"foo", ":-", "[]"} {
		if got := name.Put(s); unsafe.StringData(got) == unsafe.StringData(s) {
			t.Errorf("Put of %q is the argument's own memory", s)
		}
	}
}
