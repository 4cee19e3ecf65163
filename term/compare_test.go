package term_test

import (
	"math"
	"strings"
	"testing"

	"prolix/api"
	"prolix/term"
)

// ascending are terms, each behind the one ahead of it.
func ascending() []api.Term {
	l := []api.Term{
		variable(0), variable(1), variable(2), variable(10), variable(1 << 40), variable(math.MaxInt64),
		whole(math.MinInt64), whole(math.MinInt64 + 1), whole(-10), whole(-2), whole(-1), whole(0), whole(1), whole(2), whole(10), whole(math.MaxInt64),
		atom(""), atom("\x00"), atom("\x00a"), atom(" "), atom("+"), atom("10"), atom("9"), atom("A"), atom("B"), atom("[]"), atom("a"), atom("a\x00"), atom("aa"), atom("ab"), atom("b"), atom("f"), atom("\x7f"), atom("\x80"), atom("é"), atom("\uffff"), atom("\U00010000"), atom("\xff"), atom("\xff\xff"),
	}
	args := []api.Term{variable(0), variable(3), whole(-5), whole(5), atom(""), atom("a"), atom("g"), comp("A", atom("z")), comp("a", variable(1))}
	for _, name := range []string{"", "A", "a", "aa", "z", "\x80"} {
		for _, x := range args {
			l = append(l, comp(name, x))
		}
	}
	for _, name := range []string{"", "Z", "a", "b"} {
		for _, x := range args {
			for _, y := range args {
				l = append(l, comp(name, x, y))
			}
		}
	}
	for n := 3; n <= api.MaxArity; n += 50 {
		l = append(l, comp("a", repeated(n, variable(1))...), comp("a", repeated(n, whole(1))...), comp("b", repeated(n, variable(0))...))
	}
	return l
}

func TestP3_2Ascending(t *testing.T) {
	l := ascending()
	for i, a := range l {
		for j, b := range l {
			want := 0
			if i < j {
				want = -1
			} else if i > j {
				want = 1
			}
			if got := term.Compare(a, b); got != want {
				t.Errorf("%s and %s: %d, want %d", show(a), show(b), got, want)
			}
		}
	}
}

func TestP3_2Told(t *testing.T) {
	a, b, c := atom("a"), atom("b"), atom("c")
	for _, x := range []struct {
		a, b api.Term
		want int
	}{
		{comp("f", a, b), comp("g", c), 1},
		{comp("f", a, b), comp("f", a, b), 0},
		{comp("f", a, b), comp("f", b, a), -1},
		{comp("f", a, c), comp("f", a, b), 1},
		{comp("f", a), comp("g", a), -1},
		{comp("g", a), comp("f", b), 1},
		{comp("f", comp("f", a), b), comp("f", comp("f", b), a), -1},
		{comp("f", comp("f", a, a), a), comp("f", comp("g", b), b), 1},
		{comp("f", comp("f", a), c), comp("f", comp("f", a), b), 1},
		{comp("f", comp("f", variable(2)), c), comp("f", comp("f", variable(1)), c), 1},
		{pair(a, pair(b, atom("[]"))), pair(a, pair(b, pair(c, atom("[]")))), -1},
		{pair(a, pair(b, atom("[]"))), pair(a, pair(b, variable(0))), 1},
		{whole(0), variable(9), 1},
		{atom(""), whole(9), 1},
		{comp("", variable(0)), atom("z"), 1},
		{atom("f"), comp("f", a), -1},
		{whole(math.MinInt64), whole(math.MaxInt64), -1},
		{whole(math.MaxInt64), whole(math.MinInt64), 1},
		{atom(strings.Repeat("n", api.MaxName)), atom(strings.Repeat("n", api.MaxName-1)), 1},
		{api.Term{Kind: api.Atom, S: "a", Args: []api.Term{}}, a, 0},
		{comp("f", api.Term{Kind: api.Int, N: 1, Args: []api.Term{}}, a), comp("f", whole(1), b), -1},
	} {
		if got := term.Compare(x.a, x.b); got != x.want {
			t.Errorf("%s and %s: %d, want %d", show(x.a), show(x.b), got, x.want)
		}
		if got := term.Compare(x.b, x.a); got != -x.want {
			t.Errorf("%s and %s: %d, want %d", show(x.b), show(x.a), got, -x.want)
		}
	}
}

// TestP3_2Deep: terms that are the same but for the last part.
func TestP3_2Deep(t *testing.T) {
	for _, deep := range []int{2, api.MaxDeep, 100000} {
		a, again, b := chain(deep, atom("a")), chain(deep, atom("a")), chain(deep, atom("b"))
		if x, y, z := term.Compare(a, again), term.Compare(a, b), term.Compare(b, a); x != 0 || y != -1 || z != 1 {
			t.Errorf("%d deep: %d, %d, %d", deep, x, y, z)
		}
		if x, y := term.Compare(a, chain(deep-1, atom("a"))), term.Compare(chain(deep-1, atom("a")), a); x != 1 || y != -1 {
			t.Errorf("%d deep, and one less: %d, %d", deep, x, y)
		}
	}
	for _, parts := range []int{2, 300, api.MaxSize} {
		if x := term.Compare(sized(parts, whole(2)), sized(parts, whole(1))); x != 1 {
			t.Errorf("%d parts: %d", parts, x)
		}
	}
}

// compared is the order, rule by rule.
func compared(a, b api.Term) int {
	less := func(below, above bool) int {
		if below {
			return -1
		} else if above {
			return 1
		}
		return 0
	}
	switch {
	case a.Kind != b.Kind:
		return less(a.Kind < b.Kind, true)
	case a.Kind == api.Var, a.Kind == api.Int:
		return less(a.N < b.N, a.N > b.N)
	case a.Kind == api.Atom:
		return strings.Compare(a.S, b.S)
	case len(a.Args) != len(b.Args):
		return less(len(a.Args) < len(b.Args), true)
	case a.S != b.S:
		return strings.Compare(a.S, b.S)
	}
	for i := range a.Args {
		if c := compared(a.Args[i], b.Args[i]); c != 0 {
			return c
		}
	}
	return 0
}

func TestP3_2Small(t *testing.T) {
	l := small()
	for _, a := range l {
		for _, b := range l {
			if got, want := term.Compare(a, b), compared(a, b); got != want {
				t.Errorf("%s and %s: %d, want %d", show(a), show(b), got, want)
			}
		}
	}
}
