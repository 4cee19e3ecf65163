package write_test

import (
	"strings"
	"testing"

	"prolix/api"
	"prolix/ops"
	"prolix/write"
)

func TestP7_1Examples(t *testing.T) {
	holdQuoted(t, ops.New(), map[string]string{
		`:-(a,','(b,c))`: `a :- b,c`,
		`-(1)`:           `- 1`,
		`-(-1)`:          `- (-1)`,
		`-1`:             `-1`,
		`-(a)`:           `- a`,
		`f(-)`:           `f(-)`,
		`-(-)`:           `- (-)`,
		`-(1,-(2,3))`:    `1 - (2 - 3)`,

		`error(type_error(evaluable,/(foo,1)),/(is,2))`: `error(type_error(evaluable,foo / 1),(is) / 2)`,
		`:-(p(a),','(q,','(\+(r),!)))`:                  `p(a) :- q,\+ r,!`,
		`:-(dynamic(/(p,1)))`:                           `:- dynamic p / 1`,
		`is(a,+(*(2,3),-(4)))`:                          `a is 2 * 3 + - 4`,
		`;(->(a,b),;(->(c,d),e))`:                       `a -> b ; c -> d ; e`,
		`->(;(a,b),c)`:                                  `(a ; b) -> c`,
		`-->(a,{}(','(b,c)))`:                           `a --> {b,c}`,
		`=..(f(a),[f|-(1)])`:                            `f(a) =.. [f|- 1]`,
		`findall(a,','(p,assertz(:-(p,q))),[])`:         `findall(a,(p,assertz((p :- q))),[])`,
		`=(a,=(b,c))`:                                   `a = (b = c)`,
		`=(=(a,b),c)`:                                   `(a = b) = c`,
		`^(a,^(b,c))`:                                   `a ^ b ^ c`,
		`^(^(a,b),c)`:                                   `(a ^ b) ^ c`,
		`-(-(1,2),3)`:                                   `1 - 2 - 3`,
		`-(+(1,2),3)`:                                   `(1 + 2) - 3`,
		`-(1,+(2,3))`:                                   `1 - (2 + 3)`,
		`^(-(a),b)`:                                     `(- a) ^ b`,
		`-(^(a,b))`:                                     `- (a ^ b)`,
		`-(-(a))`:                                       `- (- a)`,
		`\+(\+(a))`:                                     `\+ (\+ a)`,
		`*(-(a),b)`:                                     `- a * b`,
		`-(*(a,b))`:                                     `- (a * b)`,
		`:-(:-(a))`:                                     `:- (:- a)`,
		`','(','(a,b),c)`:                               `(a,b),c`,
		`','(a,','(b,','(c,d)))`:                        `a,b,c,d`,
		`','(-1,-1)`:                                    `(-1),(-1)`,
		`','(-,;)`:                                      `(-),(;)`,
		`','(:-(a),b)`:                                  `(:- a),b`,
		`mod(a,b)`:                                      `a mod b`,
		`dynamic(a,b)`:                                  `dynamic(a,b)`,
		`mod(a)`:                                        `mod(a)`,
		`mod(a,b,c)`:                                    `mod(a,b,c)`,
		`','(a)`:                                        `','(a)`,
		`','(a,b,c)`:                                    `','(a,b,c)`,
		`-(a,b,c)`:                                      `-(a,b,c)`,
		`-(mod(a))`:                                     `- mod(a)`,
		`-(mod(a),-(b,c,d))`:                            `mod(a) - -(b,c,d)`,
		`-([],{})`:                                      `[] - {}`,
		`-([a],{}(b))`:                                  `[a] - {b}`,
		`-('.',',')`:                                    `'.' - (',')`,
		`:-('A b','Foo')`:                               `'A b' :- 'Foo'`,
		`-(-9223372036854775808,9223372036854775807)`:                `(-9223372036854775808) - 9223372036854775807`,
		`f(:-(a),:-(a,b),dynamic(a),-->(a,b),;(a,b),\+(a),','(a,b))`: `f((:- a),(a :- b),(dynamic a),(a --> b),(a ; b),\+ a,(a,b))`,
	})
}

// TestP7_1Types: beside each type of operator what has less than it, as much, more, the same one, and what is in ( ) whatever it has.
func TestP7_1Types(t *testing.T) {
	o := table()
	holdQuoted(t, o, map[string]string{
		`xfx(less(a,b),less(a,b))`: `a less b xfx a less b`,
		`xfx(yfx(a,b),yfx(a,b))`:   `(a yfx b) xfx (a yfx b)`,
		`xfx(xfx(a,b),xfx(a,b))`:   `(a xfx b) xfx (a xfx b)`,
		`xfx(more(a,b),more(a,b))`: `(a more b) xfx (a more b)`,
		`xfy(less(a,b),less(a,b))`: `a less b xfy a less b`,
		`xfy(yfx(a,b),yfx(a,b))`:   `(a yfx b) xfy (a yfx b)`,
		`xfy(xfy(a,b),xfy(a,b))`:   `(a xfy b) xfy a xfy b`,
		`xfy(more(a,b),more(a,b))`: `(a more b) xfy (a more b)`,
		`yfx(less(a,b),less(a,b))`: `a less b yfx a less b`,
		`yfx(xfy(a,b),xfy(a,b))`:   `(a xfy b) yfx (a xfy b)`,
		`yfx(yfx(a,b),yfx(a,b))`:   `a yfx b yfx (a yfx b)`,
		`yfx(more(a,b),more(a,b))`: `(a more b) yfx (a more b)`,

		`xfy(below(a),below(a))`:   `below a xfy below a`,
		`xfy(fy(a),fy(a))`:         `(fy a) xfy (fy a)`,
		`yfx(beyond(a),beyond(a))`: `(beyond a) yfx (beyond a)`,
		`xfy(under(a),under(a))`:   `a under xfy a under`,
		`yfx(yf(a),yf(a))`:         `(a yf) yfx (a yf)`,
		`yfx(over(a),over(a))`:     `(a over) yfx (a over)`,

		`fx(below(a))`:  `fx below a`,
		`fx(less(a,b))`: `fx a less b`,
		`fx(under(a))`:  `fx a under`,
		`fx(fx(a))`:     `fx (fx a)`,
		`fx(xfx(a,b))`:  `fx (a xfx b)`,
		`fx(xf(a))`:     `fx (a xf)`,
		`fx(beyond(a))`: `fx (beyond a)`,
		`fy(below(a))`:  `fy below a`,
		`fy(less(a,b))`: `fy a less b`,
		`fy(under(a))`:  `fy a under`,
		`fy(fy(a))`:     `fy (fy a)`,
		`fy(xfy(a,b))`:  `fy (a xfy b)`,
		`fy(yf(a))`:     `fy (a yf)`,
		`fy(beyond(a))`: `fy (beyond a)`,

		`xf(below(a))`:  `below a xf`,
		`xf(less(a,b))`: `a less b xf`,
		`xf(under(a))`:  `a under xf`,
		`xf(xf(a))`:     `(a xf) xf`,
		`xf(xfx(a,b))`:  `(a xfx b) xf`,
		`xf(fx(a))`:     `(fx a) xf`,
		`xf(over(a))`:   `(a over) xf`,
		`yf(below(a))`:  `below a yf`,
		`yf(less(a,b))`: `a less b yf`,
		`yf(under(a))`:  `a under yf`,
		`yf(yf(a))`:     `(a yf) yf`,
		`yf(yfx(a,b))`:  `(a yfx b) yf`,
		`yf(fy(a))`:     `(fy a) yf`,
		`yf(over(a))`:   `(a over) yf`,

		`one(a,b)`:          `a one b`,
		`one(one(a,b),c)`:   `(a one b) one c`,
		`first(first(a))`:   `first (first a)`,
		`last(last(a))`:     `(a last) last`,
		`first(one(a,b))`:   `first (a one b)`,
		`one(f(a),[a,b])`:   `f(a) one [a,b]`,
		`less(first(a),b)`:  `first a less b`,
		`highest(a,top(b))`: `a highest (top b)`,
		`top(end(a))`:       `top (a end)`,
	})
}

// TestP7_1Words: an atom that is any operator, and an Int below 0, are in ( ) beside an operator, nowhere else.
func TestP7_1Words(t *testing.T) {
	var l []string
	for _, d := range table().List() {
		l = append(l, d.Name)
	}
	for _, s := range l {
		text := put(t, atom(s), write.Quoted, table())
		for _, x := range []struct {
			t    api.Term
			want string
		}{
			{comp("xfx", atom(s), atom(s)), "(X) xfx (X)"},
			{comp("xfy", atom(s), atom(s)), "(X) xfy (X)"},
			{comp("yfx", atom(s), atom(s)), "(X) yfx (X)"},
			{comp(",", atom(s), atom(s)), "(X),(X)"},
			{comp("fy", atom(s)), "fy (X)"},
			{comp("yf", atom(s)), "(X) yf"},
			{comp("top", atom(s)), "top (X)"},
			{comp("first", atom(s)), "first (X)"},
			{atom(s), "X"},
			{comp("f", atom(s), atom(s)), "f(X,X)"},
			{comp("{}", atom(s)), "{X}"},
			{pair(atom(s), atom(s)), "[X|X]"},
			{pair(atom(s), pair(atom(s), atom("[]"))), "[X,X]"},
		} {
			hold(t, x.t, write.Quoted, table(), strings.ReplaceAll(x.want, "X", text))
		}
	}
	holdQuoted(t, table(), map[string]string{
		`xfx(-1,-1)`: `(-1) xfx (-1)`,
		`xfx(0,0)`:   `0 xfx 0`,
		`xfx(1,a)`:   `1 xfx a`,
		`fy(-1)`:     `fy (-1)`,
		`fy(0)`:      `fy 0`,
		`yf(-1)`:     `(-1) yf`,
		`yf(1)`:      `1 yf`,
		`top(-1)`:    `top (-1)`,
		`fy([])`:     `fy []`,
		`fy({})`:     `fy {}`,
		`fy(foo)`:    `fy foo`,
		`yf('Foo')`:  `'Foo' yf`,
	})
}

// TestP7_1Sorts: names that are operators of two sorts: of one Arg prefix goes ahead of postfix.
func TestP7_1Sorts(t *testing.T) {
	holdQuoted(t, table(), map[string]string{
		`both(a)`:             `both a`,
		`both(a,b)`:           `a both b`,
		`both(both(a),b)`:     `both a both b`,
		`both(both(a,b))`:     `both (a both b)`,
		`both(a,both(b,c))`:   `a both b both c`,
		`both(both)`:          `both (both)`,
		`both(both,both)`:     `(both) both (both)`,
		`ends(a)`:             `ends a`,
		`ends(ends(a))`:       `ends (ends a)`,
		`ends(a,b)`:           `ends(a,b)`,
		`xfx(both(a),b)`:      `both a xfx b`,
		`fx(a,b)`:             `fx(a,b)`,
		`xf(a,b)`:             `xf(a,b)`,
		`xfx(a)`:              `xfx(a)`,
		`xfx(a,b,c)`:          `xfx(a,b,c)`,
		`fy(fx(a,b))`:         `fy fx(a,b)`,
		`xfx(xfx(a),fx(a,b))`: `xfx(a) xfx fx(a,b)`,
	})
	o := with(def{300, api.XF, "ends"})
	holdQuoted(t, o, map[string]string{`ends(a)`: `a ends`, `ends(1)`: `1 ends`})
	o.Op(1000, api.FX, "ends")
	holdQuoted(t, o, map[string]string{`ends(a)`: `ends a`, `f(ends(a))`: `f((ends a))`})
	o.Op(0, api.FX, "ends")
	o.Op(0, api.XF, "ends")
	holdQuoted(t, o, map[string]string{`ends(a)`: `ends(a)`, `-(ends)`: `- ends`})
}

// TestP7_1SameName: what an operator lets stand on a side are terms of the same infix operator, not of another one of its name and priority.
func TestP7_1SameName(t *testing.T) {
	right := with(def{400, api.XFY, "same"}, def{400, api.FY, "same"}, def{400, api.XFY, "other"})
	holdQuoted(t, right, map[string]string{
		`same(a,same(b,c))`:   `a same b same c`,
		`same(a,same(b))`:     `a same (same b)`,
		`same(same(a),b)`:     `(same a) same b`,
		`same(same(a,b))`:     `same (a same b)`,
		`same(a,other(b,c))`:  `a same (b other c)`,
		`same(a,same)`:        `a same (same)`,
		`same(a,same(b,c,d))`: `a same same(b,c,d)`,
	})
	left := with(def{400, api.YFX, "same"}, def{400, api.FX, "same"}, def{400, api.YFX, "other"})
	holdQuoted(t, left, map[string]string{
		`same(same(a,b),c)`:  `a same b same c`,
		`same(same(a),b)`:    `(same a) same b`,
		`same(a,same(b))`:    `a same (same b)`,
		`same(same(a,b))`:    `same (a same b)`,
		`same(other(a,b),c)`: `(a other b) same c`,
		`same(same,a)`:       `(same) same a`,
	})
}

// TestP7_1Places: in arguments, items and tails at most 999 may stand, in braces and alone 1200.
func TestP7_1Places(t *testing.T) {
	for _, x := range []struct{ given, text, closed string }{
		{`arg(a,b)`, `a arg b`, `a arg b`},
		{`pre(a)`, `pre a`, `pre a`},
		{`post(a)`, `a post`, `a post`},
		{`'Arg'(a,b)`, `a 'Arg' b`, `(a 'Arg' b)`},
		{`'Pre'(a)`, `'Pre' a`, `('Pre' a)`},
		{`'Post'(a)`, `a 'Post'`, `(a 'Post')`},
		{`','(a,b)`, `a,b`, `(a,b)`},
		{`highest(a,b)`, `a highest b`, `(a highest b)`},
		{`top(a)`, `top a`, `(top a)`},
		{`end(a)`, `a end`, `(a end)`},
		{`:-(a,b)`, `a :- b`, `(a :- b)`},
		{`f(a)`, `f(a)`, `f(a)`},
	} {
		for place, want := range map[string]string{
			`X`:            x.text,
			`{}(X)`:        `{` + x.text + `}`,
			`f(X)`:         `f(` + x.closed + `)`,
			`f(X,a,X)`:     `f(` + x.closed + `,a,` + x.closed + `)`,
			`mod(X)`:       `mod(` + x.closed + `)`,
			`{}(X,a)`:      `{}(` + x.closed + `,a)`,
			`[X]`:          `[` + x.closed + `]`,
			`[a,X,X]`:      `[a,` + x.closed + `,` + x.closed + `]`,
			`[X|X]`:        `[` + x.closed + `|` + x.closed + `]`,
			`[a|X]`:        `[a|` + x.closed + `]`,
			`f([X])`:       `f([` + x.closed + `])`,
			`{}([X])`:      `{[` + x.closed + `]}`,
			`f({}(X))`:     `f({` + x.text + `})`,
			`-({}(X),a)`:   `{` + x.text + `} - a`,
			`-(f(X))`:      `- f(` + x.closed + `)`,
			`-([X],[a|X])`: `[` + x.closed + `] - [a|` + x.closed + `]`,
		} {
			holdQuoted(t, table(), map[string]string{strings.ReplaceAll(place, "X", x.given): want})
		}
	}
}

// TestP7_1Tables: the operators are the table's, those at first too.
func TestP7_1Tables(t *testing.T) {
	holdQuoted(t, none(), map[string]string{
		`-(1)`:             `-(1)`,
		`-(-)`:             `-(-)`,
		`','(a,-(1,-1))`:   `','(a,-(1,-1))`,
		`:-(a,[-(b)|-])`:   `:-(a,[-(b)|-])`,
		`{}(:-(a))`:        `{:-(a)}`,
		`{}({}(','(a)))`:   `{{','(a)}}`,
		`f(:-(a,b),'B')`:   `f(:-(a,b),'B')`,
		`xfx(fy(a),yf(b))`: `xfx(fy(a),yf(b))`,
	})
	o := with(def{500, api.XFY, "-"}, def{0, api.FY, "-"}, def{500, api.YFX, "^"})
	holdQuoted(t, o, map[string]string{
		`-(1,-(2,3))`: `1 - 2 - 3`,
		`-(-(1,2),3)`: `(1 - 2) - 3`,
		`-(1)`:        `-(1)`,
		`-(1,-(2))`:   `1 - -(2)`,
		`^(^(a,b),c)`: `a ^ b ^ c`,
		`^(a,^(b,c))`: `a ^ (b ^ c)`,
		`^(-(a,b),c)`: `(a - b) ^ c`,
	})
	quoted := with(def{700, api.XFX, "is not"}, def{200, api.FY, ""}, def{300, api.YF, "it's"}, def{200, api.FY, "."})
	holdQuoted(t, quoted, map[string]string{
		`'is not'(a,b)`:          `a 'is not' b`,
		`'is not'('is not','')`:  `('is not') 'is not' ('')`,
		`''(a)`:                  `'' a`,
		`'it\'s'(a)`:             `a 'it\'s'`,
		`'.'(a)`:                 `'.' a`,
		`'.'('.')`:               `'.' ('.')`,
		`'it\'s'('is not'(a,b))`: `(a 'is not' b) 'it\'s'`,
	})
}

// TestP7_1ListsFirst: a list is written as one, and has no operator's priority, though its name may be one.
func TestP7_1ListsFirst(t *testing.T) {
	for _, pri := range []int{1, 200, 1000, 1200} {
		for _, typ := range []int{api.XFX, api.XFY, api.YFX} {
			holdQuoted(t, with(def{pri, typ, "."}), map[string]string{
				`[a]`:             `[a]`,
				`[a|b]`:           `[a|b]`,
				`[a,b|-(c)]`:      `[a,b|- c]`,
				`f([a])`:          `f([a])`,
				`-([a])`:          `- [a]`,
				`-([a|b],[c])`:    `[a|b] - [c]`,
				`-('.')`:          `- ('.')`,
				`-('.'(a,b,c))`:   `- '.'(a,b,c)`,
				`-('.'(a))`:       `- '.'(a)`,
				`[['.'|'.']|'.']`: `[['.'|'.']|'.']`,
			})
		}
	}
}
