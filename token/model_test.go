package token_test

import (
	"regexp"
	"strings"
	"testing"

	"prolix/api"
	"prolix/name"
	"prolix/num"
)

// pattern is one of what begins at a place: its first group, or all of it, is what is taken.
type pattern struct {
	form *regexp.Regexp
	make func(s string) (api.Token, bool)
}

func form(s string) *regexp.Regexp { return regexp.MustCompile(`(?s)\A(?:` + s + `)`) }

// wide has a character for each byte, as patterns go by characters.
func wide(s string) string {
	var b strings.Builder
	for i := range len(s) {
		b.WriteRune(rune(s[i]))
	}
	return b.String()
}

func narrow(s string) string {
	var b strings.Builder
	for _, c := range s {
		b.WriteByte(byte(c))
	}
	return b.String()
}

var between = form(`(?:[\t-\r ]|%[^\n]*|/\*.*?\*/)+`)

// patterns are those of the document, in its order.
var patterns = []pattern{
	{form(`(\.)(?:[\t-\r %]|\z)`), func(string) (api.Token, bool) { return api.Token{Kind: api.Stop}, true }},
	{form(`/\*`), func(string) (api.Token, bool) { return api.Token{}, false }},
	{form(`[a-z][a-zA-Z_0-9]*|[-+*/\\^<>=~:.?@#&$]+|[!;]`), named(api.Name)},
	{form(`[A-Z_][a-zA-Z_0-9]*`), named(api.Named)},
	{form(`0x[0-9a-fA-F]+`), number(2, 16)},
	{form(`0o[0-7]+`), number(2, 8)},
	{form(`0b[01]+`), number(2, 2)},
	{form(`0'[^'\\\n]`), character},
	{form(`0'(?:''|\\.)`), character},
	{form(`0[xob']`), func(string) (api.Token, bool) { return api.Token{}, false }},
	{form(`[0-9]+`), number(0, 10)},
	{form(`('(?:[^'\\\n]|''|\\[^x0-7]|\\x[0-9a-fA-F]+\\|\\[0-7]+\\|\\0)*')(?:[^']|\z)`), within(api.Quoted)},
	{form(`("(?:[^"\\\n]|""|\\[^x0-7]|\\x[0-9a-fA-F]+\\|\\[0-7]+\\|\\0)*")(?:[^"]|\z)`), within(api.Codes)},
	{form(`[()[\]{},|]`), named(api.Punct)},
}

func named(kind int) func(string) (api.Token, bool) {
	return func(s string) (api.Token, bool) { return api.Token{Kind: kind, S: s}, true }
}

func number(from, base int) func(string) (api.Token, bool) {
	return func(s string) (api.Token, bool) {
		n, e := num.Parse(s[from:], base)
		return api.Token{Kind: api.Number, N: n}, e == api.OK
	}
}

func character(s string) (api.Token, bool) {
	bytes := map[string]byte{"''": '\'', `\n`: '\n', `\r`: '\r', `\t`: '\t', `\a`: '\a', `\b`: '\b', `\f`: '\f', `\v`: '\v', `\0`: 0, `\\`: '\\', `\'`: '\'', `\"`: '"', "\\`": '`'}
	s = s[2:]
	c, ok := bytes[s]
	if len(s) == 1 {
		c, ok = s[0], true
	}
	return api.Token{Kind: api.Number, N: int64(c)}, ok
}

// within leaves to layer 2 what the text comes to: the pattern says where it ends.
func within(kind int) func(string) (api.Token, bool) {
	return func(s string) (api.Token, bool) {
		text, n, e := name.Get(s[1:], s[0])
		return api.Token{Kind: kind, S: text}, e == api.OK && n == len(s)-1
	}
}

// modelled are a text's tokens by patterns alone (no limits), as lexed tells them.
func modelled(text string) string {
	text = wide(text)
	var l []api.Token
	at, line := 0, 1
	take := func(n int) {
		line += strings.Count(text[at:at+n], "\n")
		at += n
	}
	for {
		n := len(between.FindString(text[at:]))
		take(n)
		if at == len(text) {
			return told(append(l, api.Token{Kind: api.End, Line: line}), 0, api.OK)
		}
		x, size := next(text[at:])
		if size == 0 {
			return told(l, line, api.ErrLex)
		}
		x.Line = line
		x.Tight = n == 0 && len(l) > 0
		take(size)
		x.Open = strings.HasPrefix(text[at:], "(")
		l = append(l, x)
	}
}

// next is the first pattern's token that fits; 0, if that is none.
func next(s string) (api.Token, int) {
	for _, p := range patterns {
		m := p.form.FindStringSubmatch(s)
		if m == nil {
			continue
		}
		taken := m[len(m)-1]
		x, ok := p.make(narrow(taken))
		if !ok {
			return api.Token{}, 0
		}
		return x, len(taken)
	}
	return api.Token{}, 0
}

// TestP4_1Model holds Lex against the patterns, at every short text of pieces that mean something to one another.
func TestP4_1Model(t *testing.T) {
	for _, x := range []struct {
		pieces []string
		most   int
	}{
		{everyByte(), 2},
		{bytes("/*%.\n a"), 6},
		{bytes("a_Z0.+!(,"), 5},
		{bytes("0'\\nxb1f"), 6},
		{bytes("'\"\\\na"), 7},
		{[]string{"0'", "0x", "0o", "0b", "1", "8", "f", "G", "'", "."}, 5},
		{[]string{"a", "B", "0", ".", "(", "|", "'q'", "\"c\"", "/*\n*/", "%", "\n", "`", "9223372036854775808"}, 4},
	} {
		strung(x.pieces, x.most, func(s string) {
			if got, want := lexed(s), modelled(s); got != want {
				t.Errorf("%q\nis   %s\nwant %s", s, got, want)
			}
		})
	}
}
