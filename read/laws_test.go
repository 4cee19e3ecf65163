package read_test

import (
	"math/rand"
	"slices"
	"strings"
	"testing"

	"prolix/api"
	"prolix/ops"
	"prolix/read"
)

// corpus are rows of tokens, up to a Stop: clauses of all sorts, too great ones, and such as are none.
func corpus(t *testing.T) [][]api.Token {
	var l [][]api.Token
	for _, text := range []string{
		"a.", "X.", "-1.", "- 1.", "[].", "{}.", "\"ab\".", "f(X, _, Y, X).", "p(X) :- q(X, Y), \\+ r(Y), !.", "[a, B|C].", "{a, b}.", "(a :- b).", ":- dynamic p/1.", "X is 3 - -2 * Y mod 7.", "a xfy b xfy c yfx d.", "fy fy a yf yf.", "- = - .", "both both both .", "ends a ends.", "a most b.", "f(a arg b, pre c).", "'f g'(a) '+' 'b c'.",
		"a b.", "f(a.", "a = b = c.", "9223372036854775808.", "f(, a).", ").", ".", "a ** b ** c.", "[a|b|c].", "first first a.", "a | b.", "- * .",
		strings.Repeat("n", api.MaxName+1) + ".", strings.Repeat("- ", api.MaxDeep) + "a.", sized(api.MaxSize+1) + ".",
	} {
		tokens := lex(t, text)
		l = append(l, tokens[:len(tokens)-1])
	}
	g := &grower{rand: rand.New(rand.NewSource(62))}
	for i := range 300 {
		g.l = nil
		g.term(1 + i%6)
		l = append(l, append(g.l, stop))
	}
	for i := range l {
		lined(l[i])
	}
	return l
}

// moved is an answer as it is so many tokens further on.
func moved(c read.Clause, e api.Errno, by int) string {
	if e != api.ErrEnd {
		c.Next += by
	}
	return told(c, e)
}

func TestP6_2Behind(t *testing.T) {
	o := table()
	g := &grower{rand: rand.New(rand.NewSource(1))}
	others := [][]api.Token{nil, row(end), row(stop), row(word("a")), row(word("a"), stop), row(punct(")")), row(open(word("f"))), row(word("+"), word("b"), stop), row(punct(","), word("b"), stop), row(word("xf"), stop), row(number(-1)), row(api.Token{Kind: 99}), slices.Repeat(row(punct("(")), 5000), row(named("X"), word("="), named("Y"), stop)}
	for range 10 {
		g.l = nil
		g.term(3)
		others = append(others, g.l)
	}
	for _, l := range corpus(t) {
		want := told(read.Read(l, 0, o))
		for _, other := range others {
			if got := told(read.Read(slices.Concat(l, other), 0, o)); got != want {
				t.Errorf("%v, behind it %v:\nis   %s\nwant %s", l, other, short(got), short(want))
			}
			// What stands ahead of its place says nothing either.
			c, e := read.Read(slices.Concat(other, l), len(other), o)
			if got := moved(c, e, -len(other)); got != want {
				t.Errorf("%v, ahead of it %v:\nis   %s\nwant %s", l, other, short(got), short(want))
			}
		}
	}
}

// TestP6_2Others: operators are put in and taken away that no token has.
func TestP6_2Others(t *testing.T) {
	more := []def{{700, api.XFX, "other"}, {1, api.FX, "other"}, {1200, api.FY, "a b c"}, {1200, api.YF, "last one"}, {500, api.YFX, "no name"}, {200, api.XF, ""}, {999, api.XFY, "."}, {999, api.FY, "none"}}
	for _, l := range corpus(t) {
		within := map[string]int{}
		for _, x := range l {
			within[x.S]++
		}
		o := table()
		want := told(read.Read(l, 0, o))
		for _, d := range more {
			if within[d.name] == 0 {
				o.Op(d.pri, d.typ, d.name)
			}
			if got := told(read.Read(l, 0, o)); got != want {
				t.Errorf("%v, with %v:\nis   %s\nwant %s", l, d, short(got), short(want))
			}
		}
		few := &ops.Table{}
		for _, d := range o.List() {
			if within[d.Name] > 0 && d.Name != "," {
				few.Op(d.Pri, d.Type, d.Name)
			} else {
				o.Op(0, d.Type, d.Name)
			}
		}
		if got := told(read.Read(l, 0, o)); got != want {
			t.Errorf("%v, with few operators:\nis   %s\nwant %s", l, short(got), short(want))
		}
		if got := told(read.Read(l, 0, few)); within[","] == 0 && got != want {
			t.Errorf("%v, with those in it alone:\nis   %s\nwant %s", l, short(got), short(want))
		}
	}
}

// TestP6_2Again: the same is answered again, and in any order; neither the tokens, nor their list's spare room, nor the table are changed.
func TestP6_2Again(t *testing.T) {
	o := table()
	before := o.List()
	var l []api.Token
	for _, x := range corpus(t) {
		if len(x) < 100 {
			l = append(l, x...)
		}
	}
	all := append(l, end, word("spare"), word("room"))
	l = all[:len(l)]
	kept := slices.Clone(all)
	var answers []string
	for at := range l {
		answers = append(answers, told(read.Read(l, at, o)))
	}
	for at, want := range slices.Backward(answers) {
		if got := told(read.Read(l, at, o)); got != want {
			t.Errorf("at %d: %s, then %s", at, short(want), short(got))
		}
		if got := told(read.Read(l, at, table())); got != want {
			t.Errorf("at %d: %s, by another table %s", at, short(want), short(got))
		}
	}
	if !slices.Equal(all, kept) {
		t.Error("tokens are changed")
	}
	if !slices.Equal(o.List(), before) {
		t.Error("the table is changed")
	}
}
