package write_test

import (
	"strconv"
	"strings"
	"testing"

	"prolix/api"
	"prolix/ops"
	"prolix/read"
	"prolix/token"
	"prolix/write"
)

func variable(n int64) api.Term { return api.Term{Kind: api.Var, N: n} }
func whole(n int64) api.Term    { return api.Term{Kind: api.Int, N: n} }
func atom(s string) api.Term    { return api.Term{Kind: api.Atom, S: s} }

func comp(s string, args ...api.Term) api.Term {
	return api.Term{Kind: api.Comp, S: s, Args: args}
}

func pair(item, tail api.Term) api.Term { return comp(".", item, tail) }

// def is an operator that is made for a test.
type def struct {
	pri, typ int
	name     string
}

// made are operators of each type, and at each edge, that no other name has.
func made() []def {
	return []def{
		{700, api.XFX, "xfx"}, {700, api.XFY, "xfy"}, {700, api.YFX, "yfx"},
		{700, api.FX, "fx"}, {700, api.FY, "fy"}, {700, api.XF, "xf"}, {700, api.YF, "yf"},
		{699, api.XFX, "less"}, {699, api.FY, "below"}, {699, api.YF, "under"},
		{701, api.XFX, "more"}, {701, api.FY, "beyond"}, {701, api.YF, "over"},
		{1, api.XFX, "one"}, {1, api.FX, "first"}, {1, api.XF, "last"},
		{300, api.FY, "both"}, {400, api.XFY, "both"}, {300, api.FX, "ends"}, {400, api.YF, "ends"},
		{999, api.XFX, "arg"}, {999, api.FY, "pre"}, {999, api.YF, "post"},
		{1000, api.XFX, "Arg"}, {1000, api.FY, "Pre"}, {1000, api.YF, "Post"},
		{1200, api.XFX, "highest"}, {1200, api.FY, "top"}, {1200, api.YF, "end"},
	}
}

// with are operators beside those that there are at first.
func with(l ...def) *ops.Table {
	t := ops.New()
	for _, d := range l {
		if e := t.Op(d.pri, d.typ, d.name); e != api.OK {
			panic(d)
		}
	}
	return t
}

func table() *ops.Table { return with(made()...) }

// none has no operators, so that all but lists is written and read by name and arguments.
func none() *ops.Table { return &ops.Table{} }

// parse is the term of a text, by some operators.
func parse(t *testing.T, text string, o *ops.Table) api.Term {
	t.Helper()
	l, line, e := token.Lex(text + " .")
	if e != api.OK {
		t.Fatalf("%s: line %d, error %d of the tokens", short(text), line, e)
	}
	c, e := read.Read(l, 0, o)
	if e != api.OK || c.Next != len(l)-1 {
		t.Fatalf("%s: error %d, then token %d of %d", short(text), e, c.Next, len(l))
	}
	return c.Term
}

// put is a term's text, where there must be one.
func put(t *testing.T, x api.Term, way int, o *ops.Table) string {
	t.Helper()
	text, e := write.Put(x, way, o)
	if e != api.OK {
		t.Fatalf("%s, way %d: error %d", show(x), way, e)
	}
	return text
}

func hold(t *testing.T, x api.Term, way int, o *ops.Table, want string) {
	t.Helper()
	if got := put(t, x, way, o); got != want {
		t.Errorf("%s, way %d\nis   %s\nwant %s", show(x), way, short(got), short(want))
	}
}

// holdQuoted holds the quoted texts of terms, that are told by name and arguments, against what is wanted.
func holdQuoted(t *testing.T, o *ops.Table, l map[string]string) {
	t.Helper()
	for given, want := range l {
		hold(t, parse(t, given, none()), write.Quoted, o, want)
	}
}

// same says whether two terms are; nil and empty lists are one.
func same(a, b api.Term) bool {
	if a.Kind != b.Kind || a.N != b.N || a.S != b.S || len(a.Args) != len(b.Args) {
		return false
	}
	for i := range a.Args {
		if !same(a.Args[i], b.Args[i]) {
			return false
		}
	}
	return true
}

// show is a term for a test's eyes, by Kinds alone: what lies too deep for them is left out.
func show(t api.Term) string { return short(showTo(t, 40)) }

func showTo(t api.Term, deep int) string {
	switch {
	case deep == 0:
		return ".."
	case t.Kind == api.Var:
		return "_" + strconv.FormatInt(t.N, 10)
	case t.Kind == api.Int:
		return strconv.FormatInt(t.N, 10)
	case t.Kind == api.Atom:
		return strconv.Quote(t.S)
	}
	var texts []string
	for _, a := range t.Args {
		texts = append(texts, showTo(a, deep-1))
	}
	return strconv.Quote(t.S) + "(" + strings.Join(texts, " ") + ")"
}

func short(s string) string {
	if len(s) > 400 {
		return s[:200] + " .. " + s[len(s)-200:]
	}
	return s
}
