package write_test

import (
	"strings"
	"testing"

	"prolix/api"
	"prolix/ops"
	"prolix/term"
	"prolix/write"
)

// holdRead holds what is read of a term's text against the term, but for the numbers of its variables.
func holdRead(t *testing.T, x api.Term, way int, writes, reads *ops.Table) {
	t.Helper()
	text := put(t, x, way, writes)
	if got := parse(t, text, reads); !same(got, term.Number(x)) {
		t.Errorf("%s, way %d: %s\nis read as %s", show(x), way, short(text), show(got))
	}
}

// holdBoth holds quoted and canonical texts, that by several tables.
func holdBoth(t *testing.T, x api.Term, o *ops.Table, others ...*ops.Table) {
	t.Helper()
	holdRead(t, x, write.Quoted, o, o)
	holdRead(t, x, write.Canonical, o, o)
	for _, other := range others {
		holdRead(t, x, write.Canonical, o, other)
	}
}

func TestP7_2Small(t *testing.T) {
	o := table()
	small(func(x api.Term) {
		if !t.Failed() {
			holdRead(t, x, write.Quoted, o, o)
			holdRead(t, x, write.Canonical, o, o)
		}
	})
}

func TestP7_2Grown(t *testing.T) {
	g := newGrower(72)
	for range 300 {
		o, others := g.table(), []*ops.Table{g.table(), none(), table()}
		for range 40 {
			holdBoth(t, g.term(1+g.Intn(7)), o, others...)
		}
	}
}

// TestP7_2Bytes: names of each byte, and of each two that mean something to one another, wherever a name may stand.
func TestP7_2Bytes(t *testing.T) {
	var l []string
	for c := range 256 {
		l = append(l, string([]byte{byte(c)}))
	}
	few := strings.Split("a,B,_,0,+,-,.,/,*,!,;,(,[,],{,},|,%,',\",`,\\, ,\n,\t,\x00,\x7f,x,é", ",")
	few = append(few, ",", "")
	for _, a := range few {
		for _, b := range few {
			l = append(l, a+b, a+b+"a", a+b+"0")
		}
	}
	for _, s := range l {
		n := atom(s)
		all := []api.Term{n, comp(s, n), comp(s, n, n), comp(s, n, n, n), comp("f", n, n), pair(n, n), pair(n, pair(n, atom("[]"))), comp("{}", n), comp("{}", comp(s, n)), comp("-", n), comp("-", n, n), comp("-", comp(s, whole(1), whole(-1)), comp(s, variable(0)))}
		prefix, infix, postfix := with(def{200, api.FY, "yf"}), with(def{1, api.XFX, "yf"}), with(def{300, api.YF, "yf"})
		prefix.Op(200, api.FY, s)
		infix.Op(700, api.XFY, s)
		prefix.Op(1, api.YFX, s)
		postfix.Op(1000, api.YF, s)
		for _, x := range all {
			holdBoth(t, x, none(), prefix, infix, postfix)
			holdBoth(t, x, prefix)
			holdBoth(t, x, infix)
			holdBoth(t, x, postfix)
		}
	}
}

// TestP7_2Numbers: the least and the greatest, and variables, wherever they may stand.
func TestP7_2Numbers(t *testing.T) {
	o := table()
	for _, n := range []int64{0, 1, 9, 10, 39, 1<<63 - 1, -1, -9, -1 << 63} {
		x := whole(n)
		for _, y := range []api.Term{x, comp("f", x, x), pair(x, x), comp("{}", x), comp("-", x), comp("-", x, x), comp(",", x, x), comp("yf", x), comp("-", comp("-", x), comp("yf", x)), comp("-", comp("-", x, x), x), comp("+", atom("a"), x)} {
			holdBoth(t, y, o, none())
		}
		if n >= 0 {
			holdBoth(t, comp("f", variable(n), comp("-", variable(n), variable(n/2))), o, none())
		}
	}
}

// TestP7_2Canonical: by which operators canonical text is written says nothing.
func TestP7_2Canonical(t *testing.T) {
	g := newGrower(73)
	for range 3000 {
		x := g.term(1 + g.Intn(6))
		want := put(t, x, write.Canonical, none())
		hold(t, x, write.Canonical, ops.New(), want)
		hold(t, x, write.Canonical, table(), want)
		hold(t, x, write.Canonical, g.table(), want)
	}
}

// TestP7_1NoOperators: by no operators at all, quoted is canonical, but for braces.
func TestP7_1NoOperators(t *testing.T) {
	g := newGrower(74)
	for range 3000 {
		x := g.term(1 + g.Intn(6))
		braces := false
		var look func(t api.Term)
		look = func(t api.Term) {
			braces = braces || t.S == "{}" && len(t.Args) == 1
			for _, a := range t.Args {
				look(a)
			}
		}
		look(x)
		if !braces {
			hold(t, x, write.Quoted, none(), put(t, x, write.Canonical, none()))
		}
	}
}
