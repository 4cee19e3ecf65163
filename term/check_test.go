package term_test

import (
	"math"
	"strings"
	"testing"

	"prolix/api"
	"prolix/term"
)

// checked is a term, and what Check says of it.
type checked struct {
	t    api.Term
	want api.Errno
}

func checkAll(t *testing.T, l map[string]checked) {
	for what, x := range l {
		if got := term.Check(x.t); got != x.want {
			t.Errorf("%s: error %d, want %d", what, got, x.want)
		}
	}
}

func TestP3_1Check(t *testing.T) {
	a, bad := atom("a"), variable(-1)
	longest, longer := strings.Repeat("n", api.MaxName), strings.Repeat("n", api.MaxName+1)
	checkAll(t, map[string]checked{
		"a variable":              {variable(0), api.OK},
		"the last variable":       {variable(math.MaxInt64), api.OK},
		"a variable below 0":      {variable(-1), api.ErrArg},
		"the least variable":      {variable(math.MinInt64), api.ErrArg},
		"a variable's name":       {api.Term{Kind: api.Var, S: "X"}, api.ErrArg},
		"a variable's Args":       {api.Term{Kind: api.Var, Args: []api.Term{a}}, api.ErrArg},
		"an empty list of Args":   {api.Term{Kind: api.Var, Args: []api.Term{}}, api.OK},
		"an integer":              {whole(0), api.OK},
		"the least integer":       {whole(math.MinInt64), api.OK},
		"the greatest integer":    {whole(math.MaxInt64), api.OK},
		"an integer's name":       {api.Term{Kind: api.Int, S: "1"}, api.ErrArg},
		"an integer's Args":       {api.Term{Kind: api.Int, Args: []api.Term{a}}, api.ErrArg},
		"an integer's empty Args": {api.Term{Kind: api.Int, Args: make([]api.Term, 0, 3)}, api.OK},
		"an atom":                 {a, api.OK},
		"the empty atom":          {atom(""), api.OK},
		"an atom of any bytes":    {atom("\x00\xff\n"), api.OK},
		"the longest atom":        {atom(longest), api.OK},
		"a longer atom":           {atom(longer), api.ErrArg},
		"an atom's number":        {api.Term{Kind: api.Atom, S: "a", N: 1}, api.ErrArg},
		"an atom's number, below": {api.Term{Kind: api.Atom, S: "a", N: -1}, api.ErrArg},
		"an atom's Args":          {api.Term{Kind: api.Atom, S: "a", Args: []api.Term{a}}, api.ErrArg},
		"an atom's empty Args":    {api.Term{Kind: api.Atom, S: "a", Args: []api.Term{}}, api.OK},
		"a compound":              {comp("f", a), api.OK},
		"an empty name":           {comp("", a), api.OK},
		"the longest name":        {comp(longest, a), api.OK},
		"a longer name":           {comp(longer, a), api.ErrArg},
		"a compound's number":     {api.Term{Kind: api.Comp, S: "f", N: 1, Args: []api.Term{a}}, api.ErrArg},
		"no Args":                 {comp("f"), api.ErrArg},
		"empty Args":              {api.Term{Kind: api.Comp, S: "f", Args: []api.Term{}}, api.ErrArg},
		"the most Args":           {comp("f", repeated(api.MaxArity, a)...), api.OK},
		"more Args":               {comp("f", repeated(api.MaxArity+1, a)...), api.ErrArg},
		"far more Args":           {comp("f", repeated(api.MaxSize+1, a)...), api.ErrArg},
		"nothing":                 {api.Term{}, api.ErrArg},
		"a Kind of none":          {api.Term{Kind: 5}, api.ErrArg},
		"a Kind below 0":          {api.Term{Kind: -1}, api.ErrArg},
		"the last Kind":           {api.Term{Kind: math.MaxInt, S: "f", Args: []api.Term{a}}, api.ErrArg},
		"a bad first Arg":         {comp("f", bad, a, a), api.ErrArg},
		"a bad last Arg":          {comp("f", a, a, bad), api.ErrArg},
		"a bad part of an Arg":    {comp("f", a, comp("g", a, comp("h", bad)), a), api.ErrArg},
		"a bad one beside a good": {comp("f", comp("g", a), comp("g", api.Term{}), comp("g", a)), api.ErrArg},
	})
}

func TestP3_1Limits(t *testing.T) {
	a, bad := atom("a"), variable(-1)
	checkAll(t, map[string]checked{
		"the deepest":             {chain(api.MaxDeep, a), api.OK},
		"a deeper one":            {chain(api.MaxDeep+1, a), api.ErrDeep},
		"the deepest, a bad one":  {chain(api.MaxDeep, bad), api.ErrArg},
		"a deeper one, a bad one": {chain(api.MaxDeep+1, bad), api.ErrArg},
		"far deeper, a bad one":   {chain(100*api.MaxDeep, bad), api.ErrArg},
		"deeper than long":        {chain(api.MaxSize+1, a), api.ErrDeep},
		"deeper behind a good":    {comp("f", a, chain(api.MaxDeep, a)), api.ErrDeep},
		"deeper ahead of a good":  {comp("f", chain(api.MaxDeep, a), a), api.ErrDeep},
		"deeper, then a bad one":  {comp("f", chain(api.MaxDeep, a), bad), api.ErrArg},
		"the longest term":        {sized(api.MaxSize, a), api.OK},
		"a longer term":           {sized(api.MaxSize+1, a), api.ErrLong},
		"a longer, a bad one":     {sized(api.MaxSize+1, bad), api.ErrArg},
		"far longer":              {sized(20*api.MaxSize, a), api.ErrLong},
		"far longer, a bad one":   {sized(20*api.MaxSize, bad), api.ErrArg},
		"longer, then deeper":     {comp("f", sized(api.MaxSize, a), chain(api.MaxDeep, a)), api.ErrDeep},
		"longer, not too deep":    {comp("f", sized(api.MaxSize, a), chain(api.MaxDeep-1, a)), api.ErrLong},
	})
}

// wantMayBe is what the document says of a term, sentence by sentence.
func wantMayBe(t api.Term) bool {
	if t.Kind != api.Var && t.Kind != api.Int && t.Kind != api.Atom && t.Kind != api.Comp {
		return false
	}
	if t.Kind == api.Var && t.N < 0 || len(t.S) > api.MaxName {
		return false
	}
	if t.Kind == api.Comp && (len(t.Args) < 1 || len(t.Args) > api.MaxArity) {
		return false
	}
	for _, a := range t.Args {
		if !wantMayBe(a) {
			return false
		}
	}
	named, numbered := t.Kind == api.Atom || t.Kind == api.Comp, t.Kind == api.Var || t.Kind == api.Int
	return (named || t.S == "") && (numbered || t.N == 0) && (t.Kind == api.Comp || len(t.Args) == 0)
}

// TestP3_1Fields checks terms with all sorts of fields, alone and as a part.
func TestP3_1Fields(t *testing.T) {
	for kind := -2; kind <= 9; kind++ {
		for _, n := range []int64{math.MinInt64, -1, 0, 1, math.MaxInt64} {
			for _, s := range []string{"", "a", strings.Repeat("n", api.MaxName), strings.Repeat("n", api.MaxName+1), strings.Repeat("n", api.MaxText)} {
				for _, args := range [][]api.Term{nil, {}, {atom("a")}, {api.Term{}}, repeated(api.MaxArity, variable(1)), repeated(api.MaxArity+1, variable(1))} {
					x := api.Term{Kind: kind, N: n, S: s, Args: args}
					want := api.ErrArg
					if wantMayBe(x) {
						want = api.OK
					}
					for _, whole := range []api.Term{x, comp("f", x), comp("f", atom("a"), x, atom("a"))} {
						if got := term.Check(whole); got != want {
							t.Errorf("Kind %d, N %d, %d bytes, %d Args: error %d, want %d", kind, n, len(s), len(args), got, want)
						}
					}
				}
			}
		}
	}
}

func TestP3_1SizeAndDeep(t *testing.T) {
	a := atom("a")
	for what, x := range map[string]struct {
		t          api.Term
		size, deep int
	}{
		"a leaf":               {a, 1, 1},
		"nothing":              {api.Term{}, 1, 1},
		"a compound":           {comp("f", a), 2, 2},
		"three Args":           {comp("f", a, a, a), 4, 2},
		"the first is deeper":  {comp("f", comp("g", comp("h", a)), a), 5, 4},
		"the last is deeper":   {comp("f", a, comp("g", comp("h", a), a)), 6, 4},
		"the middle is deeper": {comp("f", a, comp("g", a), a), 5, 3},
		"a list":               {pair(a, pair(a, atom("[]"))), 5, 3},
		"no Args":              {comp("f"), 1, 1},
		"empty Args":           {api.Term{Kind: api.Comp, Args: []api.Term{}}, 1, 1},
		"an atom's Args":       {api.Term{Kind: api.Atom, S: "a", Args: []api.Term{a, comp("f", a)}}, 4, 3},
		"a variable's Args":    {api.Term{Kind: api.Var, Args: []api.Term{a, a}}, 3, 2},
		"an integer's Args":    {api.Term{Kind: api.Int, Args: []api.Term{a}}, 2, 2},
		"a Kind of none":       {api.Term{Kind: -7, Args: []api.Term{{Kind: 99, Args: []api.Term{{}, {}}}}}, 4, 3},
		"many Args":            {comp("f", repeated(100000, a)...), 100001, 2},
		"the longest":          {sized(api.MaxSize, a), api.MaxSize, 80},
		"the deepest":          {chain(api.MaxDeep, a), api.MaxDeep, api.MaxDeep},
		"a deeper one":         {chain(api.MaxDeep+1, a), api.MaxDeep + 1, api.MaxDeep + 1},
	} {
		if size, deep := term.Size(x.t), term.Deep(x.t); size != x.size || deep != x.deep {
			t.Errorf("%s: %d parts, %d deep; want %d, %d", what, size, deep, x.size, x.deep)
		}
	}
}

// TestP3_1Shared: a part that stands in memory once counts as often as it stands in the term.
func TestP3_1Shared(t *testing.T) {
	x := atom("a")
	for range 20 {
		x = comp("f", x, x)
	}
	if size, deep, e := term.Size(x), term.Deep(x), term.Check(x); size != 1<<21-1 || deep != 21 || e != api.ErrLong {
		t.Errorf("%d parts, %d deep, error %d", size, deep, e)
	}
}

// measured is how many parts a term has and how deep it is, part by part.
func measured(t api.Term) (size, deep int) {
	for _, a := range t.Args {
		s, d := measured(a)
		size, deep = size+s, max(deep, d)
	}
	return size + 1, deep + 1
}

func TestP3_1Small(t *testing.T) {
	for _, x := range small() {
		size, deep := measured(x)
		if s, d, e := term.Size(x), term.Deep(x), term.Check(x); s != size || d != deep || e != api.OK {
			t.Errorf("%s: %d parts, %d deep, error %d", show(x), s, d, e)
		}
	}
}

// TestP3_1FarDeeper: a term that is deeper than calls may be.
func TestP3_1FarDeeper(t *testing.T) {
	const far = 10000000
	x := chain(far, atom("a"))
	if size, deep, e := term.Size(x), term.Deep(x), term.Check(x); size != far || deep != far || e != api.ErrDeep {
		t.Errorf("%d parts, %d deep, error %d", size, deep, e)
	}
	if e := term.Check(chain(far/10, api.Term{})); e != api.ErrArg {
		t.Errorf("error %d of a bad one", e)
	}
}

// TestP3_1Endless: lists that hold themselves have no end, but these calls have.
func TestP3_1Endless(t *testing.T) {
	one := []api.Term{comp("f")}
	one[0].Args = one
	two := []api.Term{comp("f"), comp("g", atom("a"))}
	two[0].Args, two[1].Args = two, two
	ahead := comp("f", atom("a"), chain(100, one[0]))
	round := make([]api.Term, 1000)
	for i := range round {
		round[i] = comp(".", atom("a"), atom("a"))
		if i > 0 {
			round[i].Args = []api.Term{atom("a"), round[i-1]}
		}
	}
	round[0].Args[1] = round[len(round)-1]
	for i, x := range []api.Term{one[0], two[0], two[1], ahead, round[0], round[500]} {
		if e := term.Check(x); e != api.ErrDeep {
			t.Errorf("%d: error %d", i, e)
		}
		if deep := term.Deep(x); deep <= api.MaxDeep {
			t.Errorf("%d: %d deep", i, deep)
		}
		term.Size(x)
		term.Compare(x, x)
		term.Vars(x)
		term.Number(x)
		term.Items(term.List([]api.Term{x}, x))
	}
}

// TestP3_1Overlapping: a list may be a piece of that which holds it, with no part within itself.
func TestP3_1Overlapping(t *testing.T) {
	l := repeated(12, atom("a"))
	for i := range len(l) - 1 {
		l[i] = comp("f", l[i+1:]...)
	}
	if size, deep, e := term.Size(l[0]), term.Deep(l[0]), term.Check(l[0]); size != 1<<11 || deep != 12 || e != api.OK {
		t.Errorf("%d parts, %d deep, error %d", size, deep, e)
	}
}
