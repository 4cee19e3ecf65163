package name_test

import (
	"strings"
	"testing"

	"prolix/api"
	"prolix/name"
)

// back holds what Put writes in quotes against what Get reads there, whatever stands behind it.
func back(t *testing.T, s string) {
	put := name.Put(s)
	if put == s {
		return
	}
	for _, behind := range []string{"", " ", "(", "a'", "\n"} {
		if g, want := get(put[1:]+behind, put[0]), (got{s, len(put) - 1, api.OK}); g != want {
			t.Errorf("%q is written %s, and read %v", s, put, g)
		}
	}
}

func TestP2_4Back(t *testing.T) {
	all := make([]byte, 256)
	for c := range all {
		all[c] = byte(c)
	}
	strung(string(all), 2, func(s string) { back(t, s) })
	strung("a7\\'\"\x00\n\t\x01\x7fx", 4, func(s string) { back(t, s) })
	back(t, string(all))
	back(t, strings.Repeat(string(all), 4000))
}

// TestP2_4Other: what is Plain is no other token's text: it begins as a Name, and has no byte that ends one.
func TestP2_4Other(t *testing.T) {
	all := make([]byte, 256)
	for c := range all {
		all[c] = byte(c)
	}
	strung(string(all), 2, func(s string) {
		switch s {
		case "[]", "!", ";", "{}":
			return
		}
		if !name.Plain(s) {
			return
		}
		if s == "." || strings.HasPrefix(s, "/*") || strings.ContainsAny(s, " \t\n\v\f\r%,|()[]{}'\"`") || name.Sort(s[0]) != name.Small && name.Sort(s[0]) != name.Sign {
			t.Errorf("%q is plain, though it may be another token", s)
		}
	})
}

// TestP2_4Again: an answer hangs on its call's arguments alone.
func TestP2_4Again(t *testing.T) {
	for _, s := range []string{"foo", "Foo bar", "it's", "\x00\\"} {
		first, one := name.Put(s), get(s+"' \\n'", '\'')
		name.Put("X\n" + s)
		get("\\n\\q", '\'')
		if again, two := name.Put(s), get(s+"' \\n'", '\''); again != first || two != one {
			t.Errorf("%q: %s, then %s; %v, then %v", s, first, again, one, two)
		}
	}
}
