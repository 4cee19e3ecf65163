package read_test

import (
	"fmt"
	"regexp"
	"strconv"
	"strings"
	"testing"

	"prolix/api"
	"prolix/ops"
	"prolix/read"
	"prolix/token"
)

var bare = regexp.MustCompile(`\A(?:[a-z][a-zA-Z_0-9]*|[-+*/\\^<>=~:.?@#&$]+|[!;,]|\[\]|\{\})\z`)

func showName(s string) string {
	if bare.MatchString(s) {
		return s
	}
	return strconv.Quote(s)
}

// show is a term, all of it by names and arguments; what may not be in one is told too.
func show(t api.Term) string {
	var b strings.Builder
	switch {
	case t.Kind == api.Var && t.S == "" && t.Args == nil:
		b.WriteString("_" + strconv.FormatInt(t.N, 10))
	case t.Kind == api.Int && t.S == "" && t.Args == nil:
		b.WriteString(strconv.FormatInt(t.N, 10))
	case t.Kind == api.Atom && t.N == 0 && t.Args == nil:
		b.WriteString(showName(t.S))
	case t.Kind == api.Comp && t.N == 0 && len(t.Args) > 0:
		b.WriteString(showName(t.S))
		for i, a := range t.Args {
			b.WriteString([]string{"(", ","}[min(i, 1)] + show(a))
		}
		b.WriteString(")")
	default:
		fmt.Fprintf(&b, "%#v", t)
	}
	return b.String()
}

// told is what Read answered, as one text: of a clause its term, and the names of its variables; then, if it isn't 1, @ and its line; and where it goes on, behind #.
func told(c read.Clause, e api.Errno) string {
	text := "error " + strconv.Itoa(int(e))
	if e == api.OK {
		text = show(c.Term)
	} else if c.Term.Kind != 0 {
		text += " with " + show(c.Term)
	}
	for _, b := range c.Names {
		text += " " + b.Name + ":" + strconv.FormatInt(b.N, 10)
	}
	if c.Line != 1 {
		text += " @" + strconv.Itoa(c.Line)
	}
	return text + " #" + strconv.Itoa(c.Next)
}

// lex are a text's tokens, the last one an End.
func lex(t *testing.T, text string) []api.Token {
	t.Helper()
	l, line, e := token.Lex(text)
	if e != api.OK {
		t.Fatalf("%q: line %d, error %d of the tokens", short(text), line, e)
	}
	return l
}

// def is an operator that is made for a test.
type def struct {
	pri, typ int
	name     string
}

// table are the operators at first, and some of each type that no other name has.
func table() *ops.Table {
	t := ops.New()
	for _, d := range []def{
		{700, api.XFX, "xfx"}, {700, api.XFY, "xfy"}, {700, api.YFX, "yfx"},
		{700, api.FX, "fx"}, {700, api.FY, "fy"}, {700, api.XF, "xf"}, {700, api.YF, "yf"},
		{1, api.XFX, "one"}, {1, api.FX, "first"}, {1, api.XF, "last"}, {1200, api.YFX, "most"}, {1200, api.FY, "whole"},
		{300, api.FY, "both"}, {400, api.XFY, "both"}, {300, api.FX, "ends"}, {400, api.YF, "ends"},
		{999, api.YFX, "arg"}, {1000, api.YFX, "above"}, {999, api.FY, "pre"}, {1000, api.FY, "over"},
	} {
		if e := t.Op(d.pri, d.typ, d.name); e != api.OK {
			panic(d)
		}
	}
	return t
}

// hold holds what is read at the first token of a text against what is wanted, as told tells it, but for the place, if none is wanted.
func hold(t *testing.T, text, want string) {
	t.Helper()
	got := told(read.Read(lex(t, text), 0, table()))
	if !strings.Contains(want, " #") {
		got, _, _ = strings.Cut(got, " #")
	}
	if got != want {
		t.Errorf("%s\nis   %s\nwant %s", short(text), short(got), short(want))
	}
}

func holdAll(t *testing.T, l map[string]string) {
	t.Helper()
	for text, want := range l {
		hold(t, text, want)
	}
}

func short(s string) string {
	if len(s) > 400 {
		return s[:200] + " .. " + s[len(s)-200:]
	}
	return s
}
