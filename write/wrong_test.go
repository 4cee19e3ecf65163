package write_test

import (
	"math"
	"slices"
	"strings"
	"testing"

	"prolix/api"
	"prolix/ops"
	"prolix/write"
)

// holdWrong holds an error, and that nothing stands beside it.
func holdWrong(t *testing.T, about string, x api.Term, way int, o *ops.Table, want api.Errno) {
	t.Helper()
	if text, e := write.Put(x, way, o); e != want || e != api.OK && text != "" {
		t.Errorf("%s, way %d: %q, error %d, want %d", about, way, short(text), e, want)
	}
}

func repeated(n int, t api.Term) []api.Term {
	return slices.Repeat([]api.Term{t}, n)
}

// chain is a term so deep: f of f of .. of the last one.
func chain(deep int, f func(t api.Term) api.Term, last api.Term) api.Term {
	for range deep - 1 {
		last = f(last)
	}
	return last
}

func minus(t api.Term) api.Term { return comp("-", t) }

// sized is a term of so many parts, each of its leaves that one.
func sized(parts int, leaf api.Term) api.Term {
	var l []api.Term
	for left := parts - 1; left > 0; {
		n := min(left, api.MaxArity+1)
		if n == 1 {
			l = append(l, leaf)
		} else {
			l = append(l, comp("g", repeated(n-1, leaf)...))
		}
		left -= n
	}
	return comp("f", l...)
}

func TestP7_1Wrong(t *testing.T) {
	bad, deep, long := api.Term{}, chain(api.MaxDeep+1, minus, atom("a")), sized(api.MaxSize+1, atom("a"))
	for _, way := range []int{-1, 0, 1, 2, 3, math.MinInt, math.MaxInt} {
		for _, x := range []api.Term{atom("a"), bad, deep, long} {
			holdWrong(t, "a nil table", x, way, nil, api.ErrNil)
		}
	}
	for _, way := range []int{-1, 3, 4, math.MinInt, math.MaxInt} {
		for _, x := range []api.Term{atom("a"), bad, deep, long} {
			holdWrong(t, "no such way", x, way, ops.New(), api.ErrArg)
			holdWrong(t, "no such way", x, way, none(), api.ErrArg)
		}
	}
	longest, longer := strings.Repeat("n", api.MaxName), strings.Repeat("n", api.MaxName+1)
	for about, x := range map[string]struct {
		t    api.Term
		want api.Errno
	}{
		"nothing":                {bad, api.ErrArg},
		"no such Kind":           {api.Term{Kind: 5, S: "a"}, api.ErrArg},
		"a Kind below 0":         {api.Term{Kind: -1}, api.ErrArg},
		"a variable below 0":     {variable(-1), api.ErrArg},
		"a variable's name":      {api.Term{Kind: api.Var, S: "X"}, api.ErrArg},
		"an integer's name":      {api.Term{Kind: api.Int, S: "1"}, api.ErrArg},
		"an atom's number":       {api.Term{Kind: api.Atom, N: 1, S: "a"}, api.ErrArg},
		"an atom's Args":         {api.Term{Kind: api.Atom, S: "a", Args: []api.Term{atom("a")}}, api.ErrArg},
		"an atom . of two Args":  {api.Term{Kind: api.Atom, S: ".", Args: repeated(2, atom("a"))}, api.ErrArg},
		"an atom's empty Args":   {api.Term{Kind: api.Atom, S: "a", Args: []api.Term{}}, api.OK},
		"no Args":                {comp("f"), api.ErrArg},
		"the most Args":          {comp("f", repeated(api.MaxArity, atom("a"))...), api.OK},
		"more Args":              {comp("f", repeated(api.MaxArity+1, atom("a"))...), api.ErrArg},
		"the longest name":       {atom(longest), api.OK},
		"a longer name":          {atom(longer), api.ErrArg},
		"a compound's long name": {comp(longer, atom("a")), api.ErrArg},
		"a bad operand":          {comp("-", atom("a"), bad), api.ErrArg},
		"a bad item":             {pair(bad, atom("[]")), api.ErrArg},
		"a bad tail":             {pair(atom("a"), bad), api.ErrArg},
		"a bad one in braces":    {comp("{}", bad), api.ErrArg},
		"the deepest":            {chain(api.MaxDeep, minus, atom("a")), api.OK},
		"a deeper one":           {deep, api.ErrDeep},
		"far deeper":             {chain(100*api.MaxDeep, minus, atom("a")), api.ErrDeep},
		"a deeper one, bad":      {comp("-", deep, bad), api.ErrArg},
		"the longest":            {sized(api.MaxSize, atom("a")), api.OK},
		"a longer one":           {long, api.ErrLong},
		"a longer one, bad":      {comp("-", long, bad), api.ErrArg},
		"longer and deeper":      {comp("-", long, deep), api.ErrDeep},
	} {
		for way := write.Bare; way <= write.Canonical; way++ {
			holdWrong(t, about, x.t, way, table(), x.want)
			holdWrong(t, about, x.t, way, none(), x.want)
		}
	}
}

// TestP7_1HoldsItself: a list that holds itself is told as what layer 3 tells it.
func TestP7_1HoldsItself(t *testing.T) {
	x := comp("-", atom("a"))
	x.Args[0] = x
	if text, e := write.Put(x, write.Quoted, ops.New()); e != api.ErrDeep || text != "" {
		t.Errorf("%q, error %d", short(text), e)
	}
}

// alone, ahead and behind put a term into a compound of that name: where it stands there, and b beside it.
func alone(s string) func(t api.Term) api.Term {
	return func(t api.Term) api.Term { return comp(s, t) }
}

func ahead(s string) func(t api.Term) api.Term {
	return func(t api.Term) api.Term { return comp(s, t, atom("b")) }
}

func behind(s string) func(t api.Term) api.Term {
	return func(t api.Term) api.Term { return comp(s, atom("b"), t) }
}

func TestP7_1Deepest(t *testing.T) {
	m, many := api.MaxDeep-1, strings.Repeat
	for _, x := range []struct {
		within func(t api.Term) api.Term
		want   string
	}{
		{alone("f"), many("f(", m) + "a" + many(")", m)},
		{behind("f"), many("f(b,", m) + "a" + many(")", m)},
		{alone("-"), "- " + many("(- ", m-1) + "a" + many(")", m-1)},
		{alone("yf"), many("(", m-1) + "a" + many(" yf)", m-1) + " yf"},
		{behind("xfy"), many("b xfy ", m) + "a"},
		{ahead("xfy"), many("(", m-1) + "a" + many(" xfy b)", m-1) + " xfy b"},
		{ahead("yfx"), "a" + many(" yfx b", m)},
		{behind("yfx"), many("b yfx (", m-1) + "b yfx a" + many(")", m-1)},
		{behind(","), many("b,", m) + "a"},
		{ahead("."), many("[", m) + "a" + many("|b]", m)},
		{behind("."), "[" + many("b,", m-1) + "b|a]"},
		{alone("{}"), many("{", m) + "a" + many("}", m)},
	} {
		hold(t, chain(api.MaxDeep, x.within, atom("a")), write.Quoted, table(), x.want)
	}
	list := func(t api.Term) api.Term { return pair(t, atom("[]")) }
	hold(t, chain(api.MaxDeep, list, atom("a")), write.Canonical, table(), many("[", m)+"a"+many("]", m))
	goals := func(t api.Term) api.Term { return comp(":-", list(t)) }
	hold(t, chain(api.MaxDeep/2, goals, atom("a")), write.Quoted, table(), ":- ["+many("(:- [", m/2-1)+"a"+many("])", m/2-1)+"]")
}

func TestP7_1Longest(t *testing.T) {
	name := strings.Repeat("\x7f", api.MaxName)
	x := sized(api.MaxSize, atom(name))
	long := "'" + strings.Repeat("\\x7f\\", api.MaxName) + "'"
	text := put(t, x, write.Quoted, table())
	leaves := strings.Count(text, "'") / 2
	if want := "f(g(" + long + "," + long; !strings.HasPrefix(text, want) || !strings.HasSuffix(text, long+"))") {
		t.Errorf("%s", short(text))
	}
	bare := put(t, x, write.Bare, table())
	if got, want := len(text)-len(bare), leaves*(len(long)-len(name)); got != want {
		t.Errorf("%d bytes of quotes, want %d", got, want)
	}
}
