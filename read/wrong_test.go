package read_test

import (
	"math"
	"slices"
	"strings"
	"testing"

	"prolix/api"
	"prolix/ops"
	"prolix/read"
)

// lined gives each token a line that no other one has.
func lined(l []api.Token) []api.Token {
	for i := range l {
		l[i].Line = 100 + i
	}
	return l
}

// TestP6_1Stuck: § stands ahead of the first token that can't go on; Next is behind the first Stop from there on, or at an End.
func TestP6_1Stuck(t *testing.T) {
	for _, text := range []string{
		"§.", "§).", "§].", "§}.", "§,.", "§|.", "§, a.", "§| a.", "§)", "a§", // what begins no term; no Stop
		"(§", "(§.", "(§).", "(§, a).", "(a§", "(a§.", "(a§].", "(a§}.", "(a §b).", "(a§| b).", "(a,§).", "((a)§.", "((a§.", "(a)§).",
		"[§", "[§.", "[§).", "[§,a].", "[§|a].", "[§}].", "[a§", "[a§.", "[a§).", "[a§}.", "[a §b].", "[a,§].", "[a,§|b].", "[a,§,b].", "[a|§].", "[a|§", "[a|b§", "[a|b§|c].", "[a|b§,c].", "[a|b §c].", "[a|b§).", "[a|§|b].", "[]§].", "[[]§.", "[a]§[b].",
		"{§", "{§.", "{§).", "{§,a}.", "{a§", "{a§.", "{a§).", "{a§].", "{a §b}.", "{a§|b}.", "{a,§}.", "{}§}.", "{a}§{b}.", "{a :- b §:- c}.",
		"f(§", "f(§.", "f(§).", "f(§,a).", "f(a§", "f(a§.", "f(a§].", "f(a§}.", "f(a §b).", "f(a,§).", "f(a,§,b).", "f(a§|b).", "f(a,b§|c).", "f(a)§).", "[](§).", "{}(§).", "[](a§].", "{}(a,§}.", "'f g'(§).", "-(§).", "-(a,§).", "[](a§.", "f(f(f(§))).", "f(f(f(a)§.",
		"a §b.", "a §1.", "a §X.", "a §_.", "a §\"b\".", "a §'b'.", "a §(b).", "a §[b].", "a §[].", "a §{b}.", "a §{}.", "a §f(b).", "a §!.", "a §dynamic b.", "a §\\+ b.",
		"X§(a).", "X §a.", "X §Y.", "1§(a).", "1 §a.", "1 §2.", "-1 §2.", "\"a\"§(b).", "\"a\" §\"b\".", "(a)§(b).", "[a]§(b).", "{a}§(b).", "f(a)§(b).", "[] §[].", "{} §{}.",
		"a + §.", "a + §).", "a + §, b.", "(a + §).", "f(a + §, b).", "[a + §|b].", "{a + §}.", "a, §.", "a, b, §.", "a :- §.", "a = §| b.", "a * = §b.", "a * * §b.",
		"X = Y §= Z.", "a :- b §:- c.", "a --> b §:- c.", "f(a §:- b).", "[a §:- b].", "[a|b §:- c].", "f(:- §a).", "[:- §a].", "[a|:- §b].", "- \\+ §a.", "a ** b §** c.", "- = §.", "fx fx §a.", "first first §a.", "a xf §xf.", "a yf §b.", "a xf §+ b.", "fx a §xf.", ":- a §:- b.",
		"- a §b.", "- * §.", ":- §| a.", "- §|.", "\\+ a §b.", "- xf §a.",
		"§9223372036854775808.", "- §9223372036854775808.", "- - §9223372036854775808.", "a + §9223372036854775808.", "a §9223372036854775808.", "a -§9223372036854775808.", "f(§9223372036854775808).", "f(a,§9223372036854775808).", "[§9223372036854775808].", "[a|§0x8000000000000000].", "(§9223372036854775808).", "{§9223372036854775808}.", "'-'§9223372036854775808.", "+§9223372036854775808.", "-(§9223372036854775808).", "-9223372036854775808 + §9223372036854775808.",
		"a§.b", "a§.b c. d.", "f(a§. b). c.", "f(a, §. b, c). d.", "a §b c d. e. f.", "(a §b. c). d.", "§) a. b.",
	} {
		ahead, behind, marked := strings.Cut(text, "§")
		if !marked {
			t.Fatalf("%s: no §", text)
		}
		more := []string{"", "\n"}
		if strings.HasSuffix(text, ".") { // else it would stand within what is wrong
			more = append(more, " q. r.")
		}
		for _, more := range more {
			l := lined(lex(t, ahead+behind+more))
			at := len(lex(t, ahead)) - 1
			next := at + slices.IndexFunc(l[at:], func(x api.Token) bool { return x.Kind == api.Stop || x.Kind == api.End })
			if l[next].Kind == api.Stop {
				next++
			}
			c, e := read.Read(l, 0, table())
			if e != api.ErrForm || c.Line != 100+at || c.Next != next || c.Term.Kind != 0 || len(c.Names) != 0 {
				t.Errorf("%s%s: %s, want @%d #%d", text, more, told(c, e), 100+at, next)
			}
		}
	}
}

// Tokens as they may be handed in, whether Lex tells such ones or not.
func punct(s string) api.Token  { return api.Token{Kind: api.Punct, S: s} }
func word(s string) api.Token   { return api.Token{Kind: api.Name, S: s} }
func quoted(s string) api.Token { return api.Token{Kind: api.Quoted, S: s} }
func named(s string) api.Token  { return api.Token{Kind: api.Named, S: s} }
func codes(s string) api.Token  { return api.Token{Kind: api.Codes, S: s} }
func number(n int64) api.Token  { return api.Token{Kind: api.Number, N: n} }
func open(x api.Token) api.Token {
	x.Open = true
	return x
}
func tight(x api.Token) api.Token {
	x.Tight = true
	return x
}

var stop, end = api.Token{Kind: api.Stop}, api.Token{Kind: api.End}

func row(l ...api.Token) []api.Token { return l }

// TestP6_1Rows: rows of tokens that no text has.
func TestP6_1Rows(t *testing.T) {
	a, b := word("a"), word("b")
	least := int64(math.MinInt64)
	for i, x := range []struct {
		l    []api.Token
		want string
	}{
		{row(a, stop), "a @100 #2"},
		{row(a), "error 6 @0 #1"}, // none is left
		{row(a, end), "error 6 @101 #1"},
		{row(a, end, stop), "error 6 @101 #1"},
		{row(a, b), "error 6 @101 #2"},
		{row(a, b, a, b), "error 6 @101 #4"},
		{row(a, b, end, stop), "error 6 @101 #2"},
		{row(a, b, stop, end), "error 6 @101 #3"},
		{row(stop), "error 6 @100 #1"},
		{row(stop, a, stop), "error 6 @100 #1"},
		{row(punct("(")), "error 6 @0 #1"},
		{row(punct("(")), "error 6 @0 #1"},
		{row(punct("["), a, punct(",")), "error 6 @0 #3"},
		{row(punct("["), a, punct("|")), "error 6 @0 #3"},
		{row(punct("[")), "error 6 @0 #1"},
		{row(punct("{")), "error 6 @0 #1"},
		{row(word("-")), "error 6 @0 #1"},
		{row(a, word("-")), "error 6 @0 #2"},
		{row(punct("["), punct("]")), "error 6 @0 #2"},
		{row(a, api.Token{Kind: 99}, stop), "error 6 @101 #3"},
		{row(a, api.Token{Kind: -1}, b, stop), "error 6 @101 #4"},
		{row(api.Token{Kind: 8}, stop), "error 6 @100 #2"},
		{row(api.Token{Kind: math.MinInt, S: "a"}, stop), "error 6 @100 #2"},
		{row(word("-"), api.Token{Kind: 99, S: "a"}, stop), "error 6 @101 #3"},
		{row(a, word("+"), api.Token{Kind: 8, S: "a"}, stop), "error 6 @102 #4"},

		{row(open(a), stop), "error 6 @101 #2"}, // Open, but no ( behind it
		{row(open(a), b, stop), "error 6 @101 #3"},
		{row(open(a)), "error 6 @0 #1"},
		{row(open(a), end), "error 6 @101 #1"},
		{row(open(a), punct("["), stop), "error 6 @101 #3"},
		{row(open(a), word("("), b, punct(")"), stop), "error 6 @101 #5"},
		{row(open(a), quoted("("), b, punct(")"), stop), "error 6 @101 #5"},
		{row(open(word("-")), a, stop), "error 6 @101 #3"},
		{row(open(word("-")), number(1), stop), "error 6 @101 #3"},
		{row(open(word("-")), tight(number(1)), stop), "-1 @100 #3"}, // that fits first
		{row(open(quoted("-")), tight(number(1)), stop), "error 6 @101 #3"},
		{row(punct("["), open(punct("]")), stop), "error 6 @102 #3"},
		{row(punct("["), open(punct("]"))), "error 6 @0 #2"},
		{row(punct("{"), open(punct("}")), a, stop), "error 6 @102 #4"},
		{row(punct("["), open(punct("]")), punct("("), a, punct(")"), stop), "[](a) @100 #6"},
		{row(punct("{"), open(punct("}")), punct("("), a, punct(","), b, punct(")"), stop), "{}(a,b) @100 #8"},
		{row(open(punct("[")), punct("]"), stop), "[] @100 #3"},
		{row(open(punct("[")), punct("]"), punct("("), stop), "error 6 @102 #4"},
		{row(open(punct("[")), a, open(punct("]")), stop), ".(a,[]) @100 #4"},
		{row(open(punct("{")), a, open(punct("}")), stop), "{}(a) @100 #4"},
		{row(open(punct("(")), a, open(punct(")")), stop), "a @100 #4"},
		{row(open(number(7)), stop), "7 @100 #2"},
		{row(open(named("X")), stop), "_0 X:0 @100 #2"},
		{row(open(codes("b")), stop), ".(98,[]) @100 #2"},
		{row(open(a), punct("("), open(b), punct(")"), stop), "error 6 @103 #5"},
		{row(a, punct("("), b, punct(")"), stop), "error 6 @101 #5"}, // ( behind it, but not Open
		{row(word("-"), punct("("), b, punct(")"), stop), "-(b) @100 #5"},
		{row(word("-"), punct("("), a, punct(","), b, punct(")"), stop), "-(,(a,b)) @100 #7"},
		{row(word("-"), open(word("=")), stop), "error 6 @102 #3"},
		{row(a, open(word("=")), b, stop), "=(a,b) @100 #4"},
		{row(a, open(word("xf")), stop), "xf(a) @100 #3"},
		{row(a, open(punct(",")), b, stop), ",(a,b) @100 #4"},

		{row(number(-1), stop), "error 6 @100 #2"}, // any Number below 0
		{row(number(least), stop), "error 6 @100 #2"},
		{row(number(math.MaxInt64), stop), "9223372036854775807 @100 #2"},
		{row(a, number(-1), stop), "error 6 @101 #3"},
		{row(a, word("-"), tight(number(-1)), stop), "error 6 @102 #4"},
		{row(word("-"), number(-1), stop), "error 6 @101 #3"},
		{row(word("-"), tight(number(-1)), stop), "1 @100 #3"}, // 0 less it, whatever it is
		{row(word("-"), tight(number(-7)), word("+"), word("-"), tight(number(7)), stop), "+(7,-7) @100 #6"},
		{row(word("-"), tight(number(least)), stop), "-9223372036854775808 @100 #3"},
		{row(word("-"), tight(number(least+1)), stop), "9223372036854775807 @100 #3"},
		{row(word("-"), tight(number(math.MaxInt64)), stop), "-9223372036854775807 @100 #3"},
		{row(tight(word("-")), number(1), stop), "-(1) @100 #3"},
		{row(word("-"), tight(named("X")), stop), "-(_0) X:0 @100 #3"},
		{row(word("-"), tight(codes("")), stop), "-([]) @100 #3"},
		{row(quoted("-"), tight(number(1)), stop), "-(1) @100 #3"},
		{row(punct("-"), tight(number(1)), stop), "error 6 @100 #3"},
		{row(word("--"), tight(number(1)), stop), "error 6 @101 #3"},
		{row(word("-"), word("-"), tight(number(1)), stop), "-(-1) @100 #4"},

		{row(punct("a"), stop), "error 6 @100 #2"}, // a Punct by another text
		{row(punct(""), stop), "error 6 @100 #2"},
		{row(punct("()"), stop), "error 6 @100 #2"},
		{row(punct("[]"), stop), "error 6 @100 #2"},
		{row(punct("{}"), stop), "error 6 @100 #2"},
		{row(a, punct("+"), b, stop), "error 6 @101 #4"},
		{row(a, punct("xf"), stop), "error 6 @101 #3"},
		{row(word("-"), punct("a"), stop), "error 6 @101 #3"},
		{row(word("-"), punct(""), stop), "error 6 @101 #3"},
		{row(a, word(","), b, stop), ",(a,b) @100 #4"},
		{row(a, quoted(","), b, stop), ",(a,b) @100 #4"},
		{row(a, named(","), b, stop), "error 6 @101 #4"},
		{row(a, named("+"), b, stop), "error 6 @101 #4"},
		{row(a, codes("+"), b, stop), "error 6 @101 #4"},
		{row(a, api.Token{Kind: api.Stop, S: "+"}, b, stop), "a @100 #2"},
		{row(a, api.Token{Kind: api.Number, S: "+"}, b, stop), "error 6 @101 #4"},
		{row(open(a), punct("("), b, word(","), b, punct(")"), stop), "error 6 @103 #7"}, // between arguments stands the Punct
		{row(open(a), punct("("), b, quoted(","), b, punct(")"), stop), "error 6 @103 #7"},
		{row(punct("["), a, quoted("|"), b, punct("]"), stop), "error 6 @102 #6"},
		{row(punct("["), a, quoted("]"), stop), "error 6 @102 #4"},
		{row(punct("["), word("]"), punct("]"), stop), `.("]",[]) @100 #4`},
		{row(punct("{"), quoted("}"), punct("}"), stop), `{}("}") @100 #4`},
		{row(word("["), punct("]"), stop), "error 6 @101 #3"},
		{row(word("("), stop), `"(" @100 #2`},
		{row(word("[]"), stop), "[] @100 #2"},
		{row(open(word("[]")), punct("("), a, punct(")"), stop), "[](a) @100 #5"},

		{row(named(""), word("+"), named(""), stop), "+(_0,_0) :0 @100 #4"}, // any text is a name
		{row(named("_"), word("+"), named("_"), stop), "+(_0,_1) @100 #4"},
		{row(named("a b"), stop), "_0 a b:0 @100 #2"},
		{row(word(""), stop), `"" @100 #2`},
		{row(word("X"), stop), `"X" @100 #2`},
		{row(api.Token{Kind: api.Number, N: 1, S: "a"}, stop), "1 @100 #2"}, // what a Kind hasn't says nothing
		{row(api.Token{Kind: api.Name, N: 1, S: "a"}, stop), "a @100 #2"},
		{row(api.Token{Kind: api.Named, N: 1, S: "X"}, stop), "_0 X:0 @100 #2"},
		{row(api.Token{Kind: api.Codes, N: 1, S: ""}, stop), "[] @100 #2"},
		{row(api.Token{Kind: api.Punct, N: 1, S: "["}, api.Token{Kind: api.Punct, N: -1, S: "]"}, stop), "[] @100 #3"},
	} {
		if got := told(read.Read(lined(x.l), 0, table())); got != x.want {
			t.Errorf("%d: %v\nis   %s\nwant %s", i, x.l, got, x.want)
		}
	}
}

// TestP6_1Lines: a line is told as the token has it, whatever it is.
func TestP6_1Lines(t *testing.T) {
	for _, line := range []int{math.MinInt, -1, 0, 1, 7, math.MaxInt} {
		a := api.Token{Kind: api.Name, S: "a", Line: line}
		good := row(a, api.Token{Kind: api.Stop, Line: 5})
		if c, e := read.Read(good, 0, table()); e != api.OK || c.Line != line || c.Next != 2 {
			t.Errorf("%d: %s", line, told(c, e))
		}
		bad := row(api.Token{Kind: api.Name, S: "a", Line: 5}, a, stop)
		if c, e := read.Read(bad, 0, table()); e != api.ErrForm || c.Line != line || c.Next != 3 {
			t.Errorf("%d: %s", line, told(c, e))
		}
	}
	for text, want := range map[string]string{
		"\n\n p :-\n q,\n r.":            ":-(p,,(q,r)) @3 #6",
		"\n\n p :-\n q\n r.":             "error 6 @5 #5",
		"% one\np(X,\n/*\n*/Y).":         "p(_0,_1) X:0 Y:1 @2 #7",
		"p(a,\n\n":                       "error 6 @3 #4",
		"p(":                             "error 6 #2",
		"p(.\n":                          "error 6 #3",
		"p(\n9223372036854775808\n,\n).": "error 6 @2 #6",
	} {
		hold(t, text, want)
	}
}

// TestP6_1Nothing: no table, then no token at that place, or an End there.
func TestP6_1Nothing(t *testing.T) {
	l := lined(lex(t, "a. b c. (d"))
	places := []int{math.MinInt, -len(l), -1, 0, 1, 2, 3, 5, 6, len(l) - 1, len(l), len(l) + 1, math.MaxInt}
	for _, at := range places {
		for _, x := range [][]api.Token{l, nil, {}, row(end), row(stop), row(api.Token{Kind: 99})} {
			if got := told(read.Read(x, at, nil)); got != "error 1 @0 #0" {
				t.Errorf("no table, at %d: %s", at, got)
			}
		}
		for _, x := range [][]api.Token{nil, {}, row(end), row(end, end), l[:0], make([]api.Token, 3, 9)} {
			if got := told(read.Read(x, at, table())); got != "error 7 @0 #0" {
				t.Errorf("nothing, at %d: %s", at, got)
			}
		}
	}
	for at, want := range map[int]string{
		0: "a @100 #2", 1: "error 6 @101 #2", 2: "error 6 @103 #5", 3: "c @103 #5", 4: "error 6 @104 #5", 5: "error 6 @107 #7", 6: "error 6 @107 #7", 7: "error 7 @0 #0", 8: "error 7 @0 #0",
		-1: "error 7 @0 #0", math.MinInt: "error 7 @0 #0", math.MaxInt: "error 7 @0 #0",
	} {
		if got := told(read.Read(l, at, table())); got != want {
			t.Errorf("at %d: %s, want %s", at, got, want)
		}
	}
	if got := told(read.Read(row(end, word("a"), stop, end, word("b"), stop), 1, &ops.Table{})); got != "a @0 #3" {
		t.Errorf("between Ends: %s", got)
	}
	if got := told(read.Read(row(end, word("a"), stop)[:2], 1, ops.New())); got != "error 6 @0 #2" {
		t.Errorf("ahead of spare room: %s", got)
	}
}

// TestP6_1GoesOn: behind a mistake reading goes on with the next clause.
func TestP6_1GoesOn(t *testing.T) {
	l := lex(t, "a. b\n c. d(.\ne. ). f :- g :- h. [x|y].\ni(X). 9223372036854775808. j")
	var got []string
	at := 0
	for range 20 {
		c, e := read.Read(l, at, table())
		got = append(got, told(c, e))
		if e == api.ErrEnd {
			break
		}
		at = c.Next
	}
	want := "a #2; error 6 @2 #5; error 6 @2 #8; e @3 #10; error 6 @3 #12; error 6 @3 #18; .(x,y) @3 #24; i(_0) X:0 @4 #29; error 6 @4 #31; error 6 @4 #32; error 7 @0 #0"
	if s := strings.Join(got, "; "); s != want {
		t.Errorf("\nis   %s\nwant %s", s, want)
	}
}
