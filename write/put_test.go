package write_test

import (
	"math"
	"testing"

	"prolix/api"
	"prolix/write"
)

// TestP7_1Told: terms without operators; their canonical text is how they are told here.
func TestP7_1Told(t *testing.T) {
	o := table()
	for _, x := range []struct{ canonical, quoted, bare string }{
		{`a`, `a`, `a`},
		{`'Foo'`, `'Foo'`, `Foo`},
		{`''`, `''`, ``},
		{`'it\'s'`, `'it\'s'`, `it's`},
		{`'a b'`, `'a b'`, `a b`},
		{`'\n\t\x0\'`, `'\n\t\x0\'`, "\n\t\x00"},
		{`[]`, `[]`, `[]`},
		{`{}`, `{}`, `{}`},
		{`!`, `!`, `!`},
		{`'.'`, `'.'`, `.`},
		{`','`, `','`, `,`},
		{`'|'`, `'|'`, `|`},
		{`-`, `-`, `-`},
		{`:-`, `:-`, `:-`},
		{`'Arg'`, `'Arg'`, `Arg`},
		{`0`, `0`, `0`},
		{`-1`, `-1`, `-1`},
		{`9223372036854775807`, `9223372036854775807`, `9223372036854775807`},
		{`-9223372036854775808`, `-9223372036854775808`, `-9223372036854775808`},
		{`f(a)`, `f(a)`, `f(a)`},
		{`f(a,-1,'B')`, `f(a,-1,'B')`, `f(a,-1,B)`},
		{`f(g(a),g(g(b)))`, `f(g(a),g(g(b)))`, `f(g(a),g(g(b)))`},
		{`'F g'(a)`, `'F g'(a)`, `F g(a)`},
		{`''('')`, `''('')`, `()`},
		{`[](a)`, `[](a)`, `[](a)`},
		{`[](a,b)`, `[](a,b)`, `[](a,b)`},
		{`'|'(a,b)`, `'|'(a,b)`, `|(a,b)`},
		{`f(-)`, `f(-)`, `f(-)`},
		{`f(:-,dynamic,mod,xf,yf)`, `f(:-,dynamic,mod,xf,yf)`, `f(:-,dynamic,mod,xf,yf)`},
		{`f(',','|',[],{})`, `f(',','|',[],{})`, `f(,,|,[],{})`},

		{`[a]`, `[a]`, `[a]`},
		{`[a,b,'C']`, `[a,b,'C']`, `[a,b,C]`},
		{`[a|b]`, `[a|b]`, `[a|b]`},
		{`[a,b|'C']`, `[a,b|'C']`, `[a,b|C]`},
		{`[[]]`, `[[]]`, `[[]]`},
		{`[[]|{}]`, `[[]|{}]`, `[[]|{}]`},
		{`[[a],[b,[c|d]]|e]`, `[[a],[b,[c|d]]|e]`, `[[a],[b,[c|d]]|e]`},
		{`[a|1]`, `[a|1]`, `[a|1]`},
		{`[-1|-2]`, `[-1|-2]`, `[-1|-2]`},
		{`[-,:-|-]`, `[-,:-|-]`, `[-,:-|-]`},
		{`[a|'[]'(b)]`, `[a|[](b)]`, `[a|[](b)]`},
		{`[a|'.'(b)]`, `[a|'.'(b)]`, `[a|.(b)]`},
		{`[a|'.'(b,c,d)]`, `[a|'.'(b,c,d)]`, `[a|.(b,c,d)]`},
		{`[a|f(b,[])]`, `[a|f(b,[])]`, `[a|f(b,[])]`},
		{`f([a],[b|c])`, `f([a],[b|c])`, `f([a],[b|c])`},
		{`'.'(a)`, `'.'(a)`, `.(a)`},
		{`'.'(a,b,[])`, `'.'(a,b,[])`, `.(a,b,[])`},

		{`{}(a)`, `{a}`, `{a}`},
		{`{}('B')`, `{'B'}`, `{B}`},
		{`{}(-1)`, `{-1}`, `{-1}`},
		{`{}(-)`, `{-}`, `{-}`},
		{`{}([])`, `{[]}`, `{[]}`},
		{`{}({})`, `{{}}`, `{{}}`},
		{`{}({}(a))`, `{{a}}`, `{{a}}`},
		{`{}([{}(a)])`, `{[{a}]}`, `{[{a}]}`},
		{`{}(a,b)`, `{}(a,b)`, `{}(a,b)`},
		{`{}(a,b,c)`, `{}(a,b,c)`, `{}(a,b,c)`},
		{`f({}(a),{}(b,c))`, `f({a},{}(b,c))`, `f({a},{}(b,c))`},
	} {
		term := parse(t, x.canonical, none())
		want := x.canonical
		if want == `[a|'[]'(b)]` {
			want = x.quoted // '[]' is Plain: only here it is told in quotes
		}
		hold(t, term, write.Canonical, o, want)
		hold(t, term, write.Quoted, o, x.quoted)
		hold(t, term, write.Bare, o, x.bare)
	}
}

func TestP7_1Variables(t *testing.T) {
	v := variable
	for _, x := range []struct {
		t    api.Term
		want string
	}{
		{v(0), "_0"},
		{v(7), "_7"},
		{v(10), "_10"},
		{v(math.MaxInt64), "_9223372036854775807"},
		{comp("f", v(7), comp("g", v(2), v(7))), "f(_7,g(_2,_7))"},
		{pair(v(1), v(2)), "[_1|_2]"},
		{pair(v(1), pair(v(1), atom("[]"))), "[_1,_1]"},
	} {
		for _, way := range []int{write.Bare, write.Quoted, write.Canonical} {
			hold(t, x.t, way, table(), x.want)
			hold(t, x.t, way, none(), x.want)
		}
	}
	for want, x := range map[string]api.Term{
		"{_3}":     comp("{}", v(3)),
		"- _3":     comp("-", v(3)),
		"_3 yf":    comp("yf", v(3)),
		"_3 - _4":  comp("-", v(3), v(4)),
		"_3,_4,_5": comp(",", v(3), comp(",", v(4), v(5))),
	} {
		hold(t, x, write.Quoted, table(), want)
	}
}

// TestP7_1Ways: the same terms by operators, in all three ways.
func TestP7_1Ways(t *testing.T) {
	o := table()
	for _, x := range []struct{ canonical, quoted, bare string }{
		{`-(a,b)`, `a - b`, `a - b`},
		{`-(a)`, `- a`, `- a`},
		{`yf(a)`, `a yf`, `a yf`},
		{`','(a,b)`, `a,b`, `a,b`},
		{`f(','(a,b))`, `f((a,b))`, `f((a,b))`},
		{`'Arg'('A','B')`, `'A' 'Arg' 'B'`, `A Arg B`},
		{`'Pre'('A')`, `'Pre' 'A'`, `Pre A`},
		{`'Post'('A')`, `'A' 'Post'`, `A Post`},
		{`'Pre'('Arg')`, `'Pre' ('Arg')`, `Pre (Arg)`},
		{`','(',',',')`, `(','),(',')`, `(,),(,)`},
		{`[-(1,-1)|:-(a)]`, `[1 - (-1)|(:- a)]`, `[1 - (-1)|(:- a)]`},
		{`{}(:-(a,'B'))`, `{a :- 'B'}`, `{a :- B}`},
		{`f(:-(-,mod))`, `f(((-) :- (mod)))`, `f(((-) :- (mod)))`},
	} {
		term := parse(t, x.canonical, none())
		hold(t, term, write.Canonical, o, x.canonical)
		hold(t, term, write.Quoted, o, x.quoted)
		hold(t, term, write.Bare, o, x.bare)
	}
}
