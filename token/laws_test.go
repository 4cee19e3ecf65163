package token_test

import (
	"slices"
	"strings"
	"testing"
	"unsafe"

	"prolix/api"
	"prolix/token"
)

// samples are texts of all that may stand in one, right and wrong.
func samples() []string {
	l := []string{
		"a:-b.", "X= -1", "p(X) :- q(X, 'it\\'s'), \\+ \"r\".", "0x1f 0'a 0b1.", "/* a\n */ b.", "% c\nd", "'a\\\nb'(c).", "[a|T].", "{x}!;", ".", "a", "", "`", "/*", "'", "99999999999999999999", "a.\n'",
	}
	strung([]string{"a", ".", "(", "\n", "'\\\n'", "/*\n*/", "%", "0'"}, 3, func(s string) { l = append(l, s) })
	return l
}

func TestP4_2Lines(t *testing.T) {
	for _, text := range samples() {
		l, line, e := token.Lex(text)
		last := 1
		for _, x := range l {
			if x.Line < last {
				t.Errorf("%q: %s", text, lexed(text))
			}
			last = x.Line
		}
		if e != api.OK && line < last {
			t.Errorf("%q: %s", text, lexed(text))
		}
	}
}

// TestP4_2Both: the tokens of two texts, of which the first ends by a Stop and a byte 10, are those of both.
func TestP4_2Both(t *testing.T) {
	for _, a := range samples() {
		a += " .\n"
		before, _, e := token.Lex(a)
		if e != api.OK {
			continue
		}
		ends := strings.Count(a, "\n")
		if n := len(before); before[n-1] != (api.Token{Kind: api.End, Line: ends + 1}) || n < 2 || before[n-2].Kind != api.Stop {
			continue // the Stop has become part of a comment
		}
		for _, b := range samples() {
			if strings.Count(b, "\n") > 2 {
				continue
			}
			b += ".\n"
			behind, line, e := token.Lex(b)
			want := slices.Clone(before[:len(before)-1])
			for _, x := range behind {
				x.Line += ends
				want = append(want, x)
			}
			if e != api.OK {
				line += ends
			}
			hold(t, a+b, told(want, line, e))
		}
	}
}

// TestP4_1Again: an answer hangs on its call's text alone, and is new memory.
func TestP4_1Again(t *testing.T) {
	for _, text := range samples() {
		l, line, e := token.Lex(text)
		first := told(l, line, e)
		again, _, _ := token.Lex(text)
		l = l[:cap(l)]
		for i := range l {
			l[i] = api.Token{Kind: api.Punct, Line: 9, N: 9, S: "spoilt", Open: true, Tight: true}
		}
		if got := told(again, line, e); got != first {
			t.Errorf("%q: %s, now %s", text, first, got)
		}
		if got := lexed(text); got != first {
			t.Errorf("%q: %s, then %s", text, first, got)
		}
	}
}

// TestP4_1NewTexts: no token's text is a part of the text that was handed in.
func TestP4_1NewTexts(t *testing.T) {
	text := strings.Clone(`abc(X, _) :- + ! 'quoted' "codes" [ ] { } | ; 'it''s'.`)
	from := uintptr(unsafe.Pointer(unsafe.StringData(text)))
	l, _, e := token.Lex(text)
	if e != api.OK || len(l) != 20 {
		t.Fatalf("%s", lexed(text))
	}
	for _, x := range l {
		at := uintptr(unsafe.Pointer(unsafe.StringData(x.S)))
		if x.S != "" && from <= at && at < from+uintptr(len(text)) {
			t.Errorf("%s is the argument's own memory", show(x))
		}
	}
}
