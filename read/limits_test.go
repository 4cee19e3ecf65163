package read_test

import (
	"runtime/debug"
	"slices"
	"strings"
	"testing"

	"prolix/api"
	"prolix/read"
	"prolix/term"
)

// nested are texts of terms that are n deep, each in a way of its own.
func nested(n int) map[string]string {
	m := n - 1
	return map[string]string{
		"arguments":         strings.Repeat("f(", m) + "a" + strings.Repeat(")", m),
		"last arguments":    strings.Repeat("f(1,", m) + "a" + strings.Repeat(")", m),
		"first arguments":   strings.Repeat("f(", m) + "a" + strings.Repeat(",1)", m),
		"a list":            "[" + strings.Repeat("a,", m-1) + "a]",
		"a list with tail":  "[" + strings.Repeat("a,", m-1) + "a|X]",
		"lists in lists":    strings.Repeat("[", m) + "a" + strings.Repeat("]", m),
		"lists as tails":    strings.Repeat("[a|", m) + "a" + strings.Repeat("]", m),
		"braces":            strings.Repeat("{", m) + "a" + strings.Repeat("}", m),
		"prefix operators":  strings.Repeat("- ", m) + "a",
		"operators by name": strings.Repeat("-(", m) + "a" + strings.Repeat(")", m),
		"to the right":      strings.Repeat("a^", m) + "a",
		"to the left":       strings.Repeat("a-", m) + "a",
		"commas":            strings.Repeat("a,", m) + "a",
		"postfix operators": "a" + strings.Repeat(" yf", m),
		"codes":             `"` + strings.Repeat("c", m) + `"`,
		"codes, within":     `f("` + strings.Repeat("c", m-1) + `")`,
		"round brackets":    "(" + strings.Repeat("a,(", m-1) + "a,a" + strings.Repeat(")", m),
	}
}

// verdict is what Check says of a term that was read, or Read's error; and whether the rest is as it must be.
func verdict(t *testing.T, about, text string, want api.Errno) {
	t.Helper()
	l := lined(lex(t, "x. "+text+" . y."))
	c, e := read.Read(l, 2, table())
	if e != want || c.Line != 102 || c.Next != len(l)-3 {
		t.Errorf("%s: error %d, line %d, next %d of %d; want error %d", about, e, c.Line, c.Next, len(l), want)
	}
	if e != api.OK && (c.Term.Kind != 0 || c.Term.Args != nil || c.Names != nil) {
		t.Errorf("%s: a term or names beside error %d", about, e)
	}
	if e == api.OK && term.Check(c.Term) != api.OK {
		t.Errorf("%s: error %d of Check", about, term.Check(c.Term))
	}
}

func TestP6_1Deep(t *testing.T) {
	for deep, want := range map[int]api.Errno{3: api.OK, 100: api.OK, api.MaxDeep - 1: api.OK, api.MaxDeep: api.OK, api.MaxDeep + 1: api.ErrDeep, api.MaxDeep + 2: api.ErrDeep, 3 * api.MaxDeep / 2: api.ErrDeep} {
		for what, text := range nested(deep) {
			verdict(t, what, text, want)
			if c, e := read.Read(lex(t, text+" ."), 0, table()); e == api.OK && term.Deep(c.Term) != deep {
				t.Errorf("%s: %d deep, want %d", what, term.Deep(c.Term), deep)
			}
		}
	}
	for _, n := range []int{1, api.MaxDeep, 8000} {
		verdict(t, "round brackets alone", strings.Repeat("(", n)+"a"+strings.Repeat(")", n), api.OK)
	}
	verdict(t, "the longest codes", `"`+strings.Repeat("c", 65000)+`"`, api.ErrDeep)
}

// sized is a text of a term of so many parts.
func sized(parts int) string {
	var l []string
	for left := parts - 1; left > 0; {
		bytes := min(900, (left-1)/2) // as many numbers and pairs, and []
		l = append(l, `"`+strings.Repeat("c", bytes)+`"`)
		left -= 2*bytes + 1
	}
	return "f(" + strings.Join(l, ",") + ")"
}

func TestP6_1Long(t *testing.T) {
	for parts, want := range map[int]api.Errno{2: api.OK, 1801: api.OK, api.MaxSize - 1: api.OK, api.MaxSize: api.OK, api.MaxSize + 1: api.ErrLong, api.MaxSize + 2: api.ErrLong, 2 * api.MaxSize: api.ErrLong} {
		verdict(t, "many parts", sized(parts), want)
		if c, e := read.Read(lex(t, sized(parts)+"."), 0, table()); e == api.OK && term.Size(c.Term) != parts {
			t.Errorf("%d parts, want %d", term.Size(c.Term), parts)
		}
	}
	for deep, want := range map[int]api.Errno{api.MaxDeep - 1: api.ErrLong, api.MaxDeep: api.ErrDeep} {
		long, far := sized(api.MaxSize), strings.Repeat("- ", deep-1)+"a"
		verdict(t, "long, then deep", "g("+long+", "+far+")", want)
		verdict(t, "deep, then long", "g("+far+", "+long+")", want)
	}
}

// TestP6_1MayNotBe: what Check tells as ErrArg is told as ErrLong, ahead of ErrDeep.
func TestP6_1MayNotBe(t *testing.T) {
	name, far := strings.Repeat("n", api.MaxName), strings.Repeat("- ", api.MaxDeep)+"a"
	args := strings.Repeat("a,", api.MaxArity-1) + "a"
	for text, want := range map[string]api.Errno{
		name:                          api.OK,
		name + "n":                    api.ErrLong,
		"'" + name + "'":              api.OK,
		"'" + name + " '":             api.ErrLong,
		name + "(a)":                  api.OK,
		name + "n(a)":                 api.ErrLong,
		"f(" + name + "n)":            api.ErrLong,
		"[" + name + "n|a]":           api.ErrLong,
		"- " + name + "n":             api.ErrLong,
		"a = " + name + "n":           api.ErrLong,
		strings.Repeat("-", 1001):     api.ErrLong,
		strings.Repeat("N", 5000):     api.OK,
		`"` + name + `"`:              api.OK,
		"f(" + args + ")":             api.OK,
		"f(" + args + ",a)":           api.ErrLong,
		"[](" + args + ",a)":          api.ErrLong,
		"{}(" + args + ",a)":          api.ErrLong,
		"[" + args + "," + args + "]": api.OK,
		strings.Repeat("f("+args[:2]+"f(a),", 200) + args + ",a" + strings.Repeat(")", 200): api.ErrLong,
		"g(f(" + args + ",a), " + far + ")":                                                 api.ErrLong,
		"g(" + far + ", f(" + args + ",a))":                                                 api.ErrLong,
		"g(" + far + ", " + name + "n)":                                                     api.ErrLong,
		"g(" + name + "n, " + sized(api.MaxSize) + ")":                                      api.ErrLong,
		"g(" + name + "n, \"" + strings.Repeat("c", 9000) + "\")":                           api.ErrLong,
		"g(\"" + strings.Repeat("c", 9000) + "\", " + name + "n)":                           api.ErrLong,
	} {
		verdict(t, short(text), text, want)
	}
	for _, n := range []int{api.MaxName, api.MaxName + 1, 60000} { // no operator's name is so long
		c, e := read.Read(lex(t, "- a "+strings.Repeat("n", n)+" b."), 0, table())
		if got := told(c, e); got != "error 6 #5" {
			t.Errorf("%d bytes: %s", n, got)
		}
	}
	o := table()
	o.Op(700, api.XFX, name)
	if c, e := read.Read(lex(t, "a "+name+" b."), 0, o); e != api.OK || c.Term.S != name {
		t.Errorf("an operator's longest name: error %d", e)
	}
	if got := told(read.Read(lex(t, "a "+name+"n b."), 0, o)); got != "error 6 #4" {
		t.Errorf("a longer one: %s", got)
	}
}

// TestP6_1FormFirst: what can't go on is told, however deep or long it is.
func TestP6_1FormFirst(t *testing.T) {
	name := strings.Repeat("n", api.MaxName+1)
	for what, text := range nested(api.MaxDeep + 1) {
		l := lined(lex(t, text+" ) . b."))
		if c, e := read.Read(l, 0, table()); e != api.ErrForm || c.Line != 100+len(l)-5 || c.Next != len(l)-3 {
			t.Errorf("%s: %s", what, told(c, e))
		}
	}
	for _, text := range []string{name + " a.", sized(api.MaxSize+1) + " a.", "f(" + strings.Repeat("a,", api.MaxArity) + "a) a."} {
		l := lex(t, text)
		if c, e := read.Read(l, 0, table()); e != api.ErrForm || c.Next != len(l)-1 {
			t.Errorf("%s: %s", short(text), told(c, e))
		}
	}
}

// TestP6_1FarDeeper: rows that are nested deeper than calls may be, whole and broken off. (Calls have less room here than else: so fewer nested ones tell the same.)
func TestP6_1FarDeeper(t *testing.T) {
	defer debug.SetMaxStack(debug.SetMaxStack(1 << 20))
	const n = 200000
	a, f := word("a"), open(word("f"))
	for _, x := range []struct {
		what          string
		ahead, behind []api.Token
		want          api.Errno
	}{
		{"round brackets", row(punct("(")), row(punct(")")), api.OK},
		{"lists", row(punct("[")), row(punct("]")), api.ErrDeep},
		{"tails", row(punct("["), a, punct("|")), row(punct("]")), api.ErrDeep},
		{"braces", row(punct("{")), row(punct("}")), api.ErrDeep},
		{"arguments", row(f, punct("(")), row(punct(")")), api.ErrDeep},
		{"second arguments", row(f, punct("("), a, punct(",")), row(punct(")")), api.ErrDeep},
		{"prefix operators", row(word("-")), nil, api.ErrDeep},
		{"to the right", row(a, word("^")), nil, api.ErrDeep},
		{"to the left", row(a, word("-")), nil, api.ErrDeep},
		{"postfix operators", nil, row(word("yf")), api.ErrDeep},
		{"all of them", row(punct("("), f, punct("("), punct("["), punct("{"), word("-")), row(punct("}"), punct("]"), punct(")"), punct(")")), api.ErrDeep},
	} {
		ahead, behind := slices.Repeat(x.ahead, n), slices.Repeat(x.behind, n)
		whole := slices.Concat(ahead, row(a), behind, row(stop, a, stop))
		if c, e := read.Read(whole, 0, table()); e != x.want || c.Next != len(whole)-2 {
			t.Errorf("%s: error %d, next %d of %d", x.what, e, c.Next, len(whole))
		}
		broken := slices.Concat(ahead, row(a), behind, row(a))
		if c, e := read.Read(broken, 0, table()); e != api.ErrForm || c.Next != len(broken) {
			t.Errorf("%s, broken off: error %d, next %d of %d", x.what, e, c.Next, len(broken))
		}
	}
	long := slices.Concat(slices.Repeat(row(word("-")), n), row(a, word(strings.Repeat("n", 1000000)), stop))
	if c, e := read.Read(long, 0, table()); e != api.ErrForm || c.Next != len(long) {
		t.Errorf("a long name, where much may end: error %d, next %d of %d", e, c.Next, len(long))
	}
	for what, l := range map[string][]api.Token{
		"many arguments": slices.Concat(row(f, punct("(")), slices.Repeat(row(a, punct(",")), n), row(a, punct(")"), stop)),
		"one long codes": row(codes(strings.Repeat("c", 1000*n)), word("+"), word(strings.Repeat("n", 1001)), stop),
	} {
		if c, e := read.Read(l, 0, table()); e != api.ErrLong || c.Next != len(l) {
			t.Errorf("%s: error %d, next %d of %d", what, e, c.Next, len(l))
		}
	}
}
