package token_test

import (
	"strconv"
	"strings"
	"testing"

	"prolix/api"
	"prolix/token"
)

// lexed is what Lex answered, as one text: each token (see show), then, of an error, the line and its number.
func lexed(text string) string { return told(token.Lex(text)) }

func told(l []api.Token, line int, e api.Errno) string {
	var b strings.Builder
	for _, t := range l {
		b.WriteString(show(t) + " ")
	}
	if line != 0 || e != api.OK {
		b.WriteString("line " + strconv.Itoa(line) + ", error " + strconv.Itoa(int(e)))
	}
	return strings.TrimSuffix(b.String(), " ")
}

// show is a token: ~ if it is Tight; its Kind; S, if it has any or might; N likewise; ( if it is Open; its line, if that isn't 1.
func show(t api.Token) string {
	kinds := map[int]string{api.End: "End", api.Name: "Name", api.Quoted: "Quoted", api.Number: "Number", api.Named: "Named", api.Codes: "Codes", api.Punct: "Punct", api.Stop: "Stop"}
	var b strings.Builder
	if t.Tight {
		b.WriteString("~")
	}
	b.WriteString(kinds[t.Kind])
	bare := t.Kind == api.End || t.Kind == api.Stop || t.Kind == api.Number
	if t.S != "" || !bare {
		b.WriteString(strconv.Quote(t.S))
	}
	if t.N != 0 || t.Kind == api.Number {
		b.WriteString(":" + strconv.FormatInt(t.N, 10))
	}
	if t.Open {
		b.WriteString("(")
	}
	if t.Line != 1 {
		b.WriteString("@" + strconv.Itoa(t.Line))
	}
	return b.String()
}

// hold holds what Lex answers against what is wanted, as lexed tells it.
func hold(t *testing.T, text, want string) {
	t.Helper()
	if got := lexed(text); got != want {
		t.Errorf("%s\nis   %s\nwant %s", short(text), short(got), short(want))
	}
}

func short(s string) string {
	if len(s) > 400 {
		return strconv.Quote(s[:200]) + " .. " + strconv.Quote(s[len(s)-200:])
	}
	return strconv.Quote(s)
}

// strung gives every text of at most so many of these pieces.
func strung(pieces []string, most int, give func(string)) {
	var on func(s string, left int)
	on = func(s string, left int) {
		give(s)
		if left == 0 {
			return
		}
		for _, piece := range pieces {
			on(s+piece, left-1)
		}
	}
	on("", most)
}

// bytes are those of a text, each alone.
func bytes(s string) []string {
	l := make([]string, len(s))
	for i := range l {
		l[i] = s[i : i+1]
	}
	return l
}

// everyByte has all 256.
func everyByte() []string {
	var l []string
	for c := range 256 {
		l = append(l, string([]byte{byte(c)}))
	}
	return l
}
