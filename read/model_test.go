package read_test

import (
	"math"
	"math/rand"
	"slices"
	"testing"

	"prolix/api"
	"prolix/ops"
	"prolix/read"
)

// model reads by calls within calls, as the document tells it, by a list of operators that is looked through.
type model struct {
	l     []api.Token
	defs  []ops.Def
	names []read.Bind
	vars  int64
}

// part is a term that was read, its priority, and the place behind it; or, if it isn't ok, the place where it can't go on.
type part struct {
	t         api.Term
	pri, next int
	ok        bool
}

func (m *model) token(at int) api.Token {
	if at < len(m.l) {
		return m.l[at]
	}
	return api.Token{}
}

func (m *model) is(at int, s string) bool {
	return m.token(at).Kind == api.Punct && m.token(at).S == s
}

func (m *model) isName(at int) bool {
	return m.token(at).Kind == api.Name || m.token(at).Kind == api.Quoted
}

// operator is a name's of these types, with what its sides may have.
func (m *model) operator(name string, types ...int) (pri, left, right int) {
	for _, d := range m.defs {
		if d.Name != name || !slices.Contains(types, d.Type) {
			continue
		}
		left, right = d.Pri, d.Pri
		if slices.Contains([]int{api.XFX, api.XFY, api.XF}, d.Type) {
			left--
		}
		if slices.Contains([]int{api.XFX, api.YFX, api.FX}, d.Type) {
			right--
		}
		return d.Pri, left, right
	}
	return 0, 0, 0
}

func (m *model) prefix(name string) (pri, right int) {
	pri, _, right = m.operator(name, api.FX, api.FY)
	return pri, right
}

func stuck(at int) part { return part{next: at} }

func leaf(t api.Term, at int) part { return part{t, 0, at + 1, true} }

func compound(name string, pri, next int, args ...api.Term) part {
	return part{api.Term{Kind: api.Comp, S: name, Args: args}, pri, next, true}
}

func (m *model) begins(at int) bool {
	switch t := m.token(at); t.Kind {
	case api.Number, api.Named, api.Codes:
		return true
	case api.Punct:
		return m.is(at, "(") || m.is(at, "[") || m.is(at, "{")
	case api.Name, api.Quoted:
		behind, _, _ := m.operator(t.S, api.XFX, api.XFY, api.YFX, api.XF, api.YF)
		ahead, _ := m.prefix(t.S)
		return t.Open || behind == 0 || ahead != 0
	}
	return false
}

// upTo is a term of at most a priority, and what must stand behind it.
func (m *model) upTo(at, most int, closing string, made func(t api.Term) api.Term) part {
	x := m.term(at, most)
	if !x.ok {
		return x
	}
	if !m.is(x.next, closing) {
		return stuck(x.next)
	}
	return part{made(x.t), 0, x.next + 1, true}
}

func (m *model) arguments(at int) ([]api.Term, part) {
	x := m.term(at, 999)
	if !x.ok || !m.is(x.next, ",") {
		return []api.Term{x.t}, x
	}
	more, last := m.arguments(x.next + 1)
	return append([]api.Term{x.t}, more...), last
}

func (m *model) named(name string, at int) part {
	if !m.is(at, "(") {
		return stuck(at)
	}
	l, last := m.arguments(at + 1)
	if !last.ok {
		return last
	}
	if !m.is(last.next, ")") {
		return stuck(last.next)
	}
	return compound(name, 0, last.next+1, l...)
}

func listOf(l []api.Term, tail api.Term) api.Term {
	for _, x := range slices.Backward(l) {
		tail = api.Term{Kind: api.Comp, S: ".", Args: []api.Term{x, tail}}
	}
	return tail
}

func (m *model) list(at int) part {
	l, last := m.arguments(at)
	if !last.ok {
		return last
	}
	if m.is(last.next, "|") {
		return m.upTo(last.next+1, 999, "]", func(t api.Term) api.Term { return listOf(l, t) })
	}
	if !m.is(last.next, "]") {
		return stuck(last.next)
	}
	return part{listOf(l, api.Term{Kind: api.Atom, S: "[]"}), 0, last.next + 1, true}
}

func (m *model) variable(name string) api.Term {
	for _, b := range m.names {
		if b.Name == name {
			return api.Term{Kind: api.Var, N: b.N}
		}
	}
	if name != "_" {
		m.names = append(m.names, read.Bind{Name: name, N: m.vars})
	}
	m.vars++
	return api.Term{Kind: api.Var, N: m.vars - 1}
}

func (m *model) primary(at, most int) part {
	t, next := m.token(at), m.token(at+1)
	pri, right := m.prefix(t.S)
	switch {
	case t.Kind == api.Number && t.N >= 0:
		return leaf(api.Term{Kind: api.Int, N: t.N}, at)
	case t.Kind == api.Named:
		return leaf(m.variable(t.S), at)
	case t.Kind == api.Codes:
		var l []api.Term
		for i := range len(t.S) {
			l = append(l, api.Term{Kind: api.Int, N: int64(t.S[i])})
		}
		return leaf(listOf(l, api.Term{Kind: api.Atom, S: "[]"}), at)
	case m.is(at, "("):
		return m.upTo(at+1, 1200, ")", func(t api.Term) api.Term { return t })
	case m.is(at, "[") && m.is(at+1, "]") && !next.Open:
		return leaf(api.Term{Kind: api.Atom, S: "[]"}, at+1)
	case m.is(at, "[") && !m.is(at+1, "]"):
		return m.list(at + 1)
	case m.is(at, "{") && m.is(at+1, "}") && !next.Open:
		return leaf(api.Term{Kind: api.Atom, S: "{}"}, at+1)
	case m.is(at, "{") && !m.is(at+1, "}"):
		return m.upTo(at+1, 1200, "}", func(t api.Term) api.Term { return api.Term{Kind: api.Comp, S: "{}", Args: []api.Term{t}} })
	case t.Kind == api.Name && t.S == "-" && next.Kind == api.Number && next.Tight:
		return leaf(api.Term{Kind: api.Int, N: 0 - next.N}, at+1)
	case m.isName(at) && t.Open:
		return m.named(t.S, at+1)
	case m.is(at, "["):
		return m.named("[]", at+2)
	case m.is(at, "{"):
		return m.named("{}", at+2)
	case m.isName(at) && pri != 0 && pri <= most && m.begins(at+1):
		x := m.term(at+1, right)
		if !x.ok {
			return x
		}
		return compound(t.S, pri, x.next, x.t)
	case m.isName(at):
		return leaf(api.Term{Kind: api.Atom, S: t.S}, at)
	}
	return stuck(at)
}

func (m *model) term(at, most int) part {
	x := m.primary(at, most)
	for x.ok {
		t := m.token(x.next)
		if !m.isName(x.next) && !m.is(x.next, ",") {
			return x
		}
		pri, left, right := m.operator(t.S, api.XFX, api.XFY, api.YFX)
		if pri != 0 && pri <= most && left >= x.pri {
			y := m.term(x.next+1, right)
			if !y.ok {
				return y
			}
			x = compound(t.S, pri, y.next, x.t, y.t)
			continue
		}
		pri, left, _ = m.operator(t.S, api.XF, api.YF)
		if pri == 0 || pri > most || left < x.pri {
			return x
		}
		x = compound(t.S, pri, x.next+1, x.t)
	}
	return x
}

// modelled is what Read answers, as told tells it, of terms that Check has nothing against.
func modelled(l []api.Token, at int, defs []ops.Def) string {
	m := &model{l: l, defs: defs}
	if at < 0 || m.token(at).Kind == api.End {
		return told(read.Clause{}, api.ErrEnd)
	}
	x := m.term(at, 1200)
	if x.ok && m.token(x.next).Kind == api.Stop {
		return told(read.Clause{Term: x.t, Names: m.names, Line: l[at].Line, Next: x.next + 1}, api.OK)
	}
	next := x.next
	for next < len(l) && l[next].Kind != api.Stop && l[next].Kind != api.End {
		next++
	}
	if m.token(next).Kind == api.Stop {
		next++
	}
	return told(read.Clause{Line: m.token(x.next).Line, Next: next}, api.ErrForm)
}

// rows gives every row of at most so many of these tokens, each of a line of its own.
func rows(tokens []api.Token, most int, give func(l []api.Token)) {
	var l []api.Token
	var on func(left int)
	on = func(left int) {
		give(l)
		if left == 0 {
			return
		}
		for _, x := range tokens {
			x.Line = 100 + len(l)
			l = append(l, x)
			on(left - 1)
			l = l[:len(l)-1]
		}
	}
	on(most)
}

// words are names, each a token.
func words(l ...string) []api.Token {
	var made []api.Token
	for _, s := range l {
		made = append(made, word(s))
	}
	return made
}

// TestP6_1Model holds Read against the model, at every short row of tokens that mean something to one another.
func TestP6_1Model(t *testing.T) {
	a, f := word("a"), open(word("f"))
	for _, x := range []struct {
		tokens []api.Token
		most   int
	}{
		{row(a, word("-"), number(1), tight(number(1)), punct("("), punct(")"), stop), 6},
		{row(a, word("-"), open(word("-")), tight(number(math.MinInt64)), number(-5), quoted("-"), punct("("), stop), 5},
		{row(a, f, punct("("), punct(")"), punct(","), punct("["), punct("]"), punct("|"), stop), 6},
		{row(a, punct("["), punct("]"), open(punct("]")), punct("{"), punct("}"), open(punct("}")), punct("("), punct(")"), stop), 5},
		{append(words("a", "xfx", "xfy", "yfx", "fx", "fy", "xf", "yf"), stop), 6},
		{append(words("a", "one", "first", "last", "most", "whole"), punct("("), punct(")"), stop), 5},
		{append(words("a", "arg", "above", "pre", "over"), punct(","), f, punct("("), punct(")"), stop), 5},
		{append(words("a", "both", "ends", "-", "\\+", "=", "yf"), stop), 6},
		{append(words("a", ":-", "dynamic", ";", "-", "*"), open(word("=")), punct("("), punct(")"), stop), 5},
		{row(named("X"), named("_"), named("Y"), word("="), punct(","), word("-"), codes("cd"), stop), 6},
		{row(a, end, stop, api.Token{Kind: 99}, api.Token{Kind: -1, S: "a"}, punct("?"), quoted(","), word(","), word("-"), f), 5},
	} {
		o := table()
		defs := o.List()
		rows(x.tokens, x.most, func(l []api.Token) {
			if got, want := told(read.Read(l, 0, o)), modelled(l, 0, defs); got != want {
				t.Fatalf("%v\nis   %s\nwant %s", l, got, want)
			}
		})
	}
}

// TestP6_1ModelLong holds Read against the model at long rows: texts of nested terms, some with a token left out, put in, or turned.
func TestP6_1ModelLong(t *testing.T) {
	g := &grower{rand: rand.New(rand.NewSource(6))}
	o := table()
	defs := o.List()
	good := 0
	for i := range 60000 {
		g.l = g.l[:0]
		g.term(1 + i%7)
		l := append(slices.Clone(g.l), stop, word("a"), stop)
		if i%2 == 1 {
			at := g.rand.Intn(len(l))
			switch g.rand.Intn(3) {
			case 0:
				l = slices.Delete(l, at, at+1)
			case 1:
				l = slices.Insert(l, at, g.any())
			default:
				l[at] = g.any()
			}
		}
		l = lined(l)
		got, want := told(read.Read(l, 0, o)), modelled(l, 0, defs)
		if got != want {
			t.Fatalf("%v\nis   %s\nwant %s", l, got, want)
		}
		if want[0] != 'e' {
			good++
		}
	}
	if good < 15000 {
		t.Errorf("only %d clauses were none", good)
	}
}

// grower makes the tokens of a term at random, the same ones each time.
type grower struct {
	rand *rand.Rand
	l    []api.Token
}

func (g *grower) put(l ...api.Token) { g.l = append(g.l, l...) }

func (g *grower) one(l ...string) string { return l[g.rand.Intn(len(l))] }

func (g *grower) any() api.Token {
	all := append(words("a", "-", "=", "xf", "both", "ends", ":-", "dynamic", "arg", "over", "yfx"),
		open(word("f")), open(word("-")), quoted("b c"), number(3), tight(number(4)), number(-1), named("X"), named("_"), codes("c"),
		punct("("), punct(")"), punct("["), punct("]"), open(punct("]")), punct("{"), punct("}"), punct(","), punct("|"), stop, end)
	return all[g.rand.Intn(len(all))]
}

// term puts a term's tokens, nested so deep at most; now and then one of a priority too high for its place.
func (g *grower) term(deep int) {
	if deep == 0 {
		g.put([]api.Token{word("a"), quoted("b c"), number(7), named("X"), named("Y"), named("_"), codes("c"), word(g.one("-", "=", "dynamic"))}[g.rand.Intn(8)])
		return
	}
	switch g.rand.Intn(10) {
	case 0:
		g.within(punct("("), deep, punct(")"))
	case 1:
		g.within(punct("{"), deep, punct("}"))
	case 2:
		g.put(open(word(g.one("f", "-", "="))))
		g.list(punct("("), deep, punct(")"))
	case 3:
		g.list(punct("["), deep, punct("]"))
	case 4:
		g.list(punct("["), deep, punct("|"))
		g.term(deep - 1)
		g.put(punct("]"))
	case 5:
		g.put(word(g.one("-", "\\", "\\+", "fy", "both", "ends", "first", "whole", "pre")))
		g.term(deep - 1)
	case 6:
		g.term(deep - 1)
		g.put(word(g.one("xf", "yf", "ends", "last")))
	case 7:
		g.put(word("-"), tight(number(int64(g.rand.Intn(9)))))
	default:
		g.term(g.rand.Intn(deep))
		g.put(word(g.one("+", "*", "^", "**", "=", "xfy", "yfx", ";", "->", ":-", "both", "one", "arg", ",")))
		g.term(deep - 1)
	}
}

func (g *grower) within(opening api.Token, deep int, closing api.Token) {
	g.put(opening)
	g.term(deep - 1)
	g.put(closing)
}

func (g *grower) list(opening api.Token, deep int, closing api.Token) {
	g.put(opening)
	g.term(deep - 1)
	for range g.rand.Intn(3) {
		g.put(punct(","))
		g.term(deep - 1)
	}
	g.put(closing)
}

// endings are what a clause may be ended by, whatever it began with.
func endings() []api.Token {
	return row(word("a"), punct("("), punct(")"), punct("]"), punct("}"), stop)
}

// mayGoOn says whether these tokens are a clause with some more behind them: it looks for those where each one can go on.
func mayGoOn(l []api.Token, o *ops.Table, more int) bool {
	c, e := read.Read(l, 0, o)
	if e == api.OK {
		return true
	}
	if more == 0 || c.Line != 0 { // a token that there is can't go on: they all have a line
		return false
	}
	for _, x := range endings() {
		x.Line = 1
		if mayGoOn(append(slices.Clone(l), x), o, more-1) {
			return true
		}
	}
	return false
}

// goesOn says the same, by trying all.
func goesOn(l []api.Token, o *ops.Table, more int) bool {
	found := false
	rows(endings(), more, func(ending []api.Token) {
		if !found {
			_, e := read.Read(slices.Concat(l, ending), 0, o)
			found = e == api.OK
		}
	})
	return found
}

// TestP6_1First: the token that is told is the first one that can't go on: those ahead of it may begin a clause, with it they may not.
func TestP6_1First(t *testing.T) {
	o := table()
	held := 0
	rows(row(word("a"), word("-"), word("="), word("xf"), open(word("f")), punct("("), punct("["), punct("]"), punct(")"), punct("|"), punct(",")), 3, func(l []api.Token) {
		c, e := read.Read(l, 0, o)
		if e != api.ErrForm || c.Line == 0 {
			return
		}
		held++
		at := c.Line - 100
		if !mayGoOn(l[:at], o, 6) || goesOn(l[:at+1], o, 4) {
			t.Errorf("%v can't go on at %d", l, at)
		}
	})
	if held < 500 {
		t.Errorf("only %d rows that can't go on", held)
	}
}
