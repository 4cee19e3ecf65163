package store_test

import (
	"math"
	"testing"

	"prolix/api"
	"prolix/store"
)

// strangers are numbers that are no cells of a store with so many.
func strangers(cells int) []int {
	return []int{-1, cells, cells + 1, 1 << 24, math.MinInt, math.MaxInt}
}

func TestP8_2None(t *testing.T) {
	for _, s := range []*store.Store{{}, made(t, 9), made(t, 1<<24)} {
		if s.Cells() == 0 {
			s.Put(comp("f", atom("a")), nil)
		}
		for _, at := range strangers(s.Cells()) {
			if followed := s.Follow(at); followed != -1 {
				t.Errorf("Follow(%d): %d", at, followed)
			}
			looked(t, "none", s, at, api.Term{})
			got(t, "none", s, at, api.Term{}, api.ErrArg)
		}
	}
}

// TestP8_2Followed: of a bound cell all is told of the one that it is, followed; but a Comp's Args' cells are as they were put.
func TestP8_2Followed(t *testing.T) {
	s := made(t, 50)
	vars := map[int64]int{}
	f := put(t, s, comp("f", variable(0), variable(1), variable(2)), vars) // 0; 1, 2, 3
	n := put(t, s, whole(7), nil)
	g := put(t, s, comp("g", variable(1), atom("a")), vars)
	bind(t, s, 1, 2)
	bind(t, s, 3, g)
	v := fresh(t, s)
	bind(t, s, v, f)
	holds := func(at, is int, want api.Term, args ...int) {
		t.Helper()
		if s.Follow(at) != is {
			t.Errorf("Follow(%d): %d, want %d", at, s.Follow(at), is)
		}
		looked(t, "followed", s, at, want, args...)
	}
	both := api.Term{Kind: api.Comp, S: "f"}
	holds(v, f, both, 1, 2, 3)
	holds(f, f, both, 1, 2, 3)
	holds(1, 2, variable(2))
	holds(2, 2, variable(2))
	holds(3, g, api.Term{Kind: api.Comp, S: "g"}, 2, 6)
	got(t, "Y is free", s, v, comp("f", variable(2), variable(2), comp("g", variable(2), atom("a"))), api.OK)
	bind(t, s, 1, n)
	holds(v, f, both, 1, 2, 3)
	holds(1, n, whole(7))
	holds(2, n, whole(7))
	got(t, "Y is 7", s, v, comp("f", whole(7), whole(7), comp("g", whole(7), atom("a"))), api.OK)
}

// TestP8_2Long: cells that are followed may be as many as there are.
func TestP8_2Long(t *testing.T) {
	const many = 1 << 20
	s := made(t, many)
	for range many {
		fresh(t, s)
	}
	for at := range many - 1 {
		bind(t, s, at, at+1)
	}
	if at := s.Follow(0); at != many-1 {
		t.Errorf("Follow: %d", at)
	}
	looked(t, "the first", s, 0, variable(many-1))
	got(t, "the first", s, 0, variable(many-1), api.OK)
	s.Undo(many / 2)
	got(t, "the first, half undone", s, 0, variable(many/2), api.OK)
	s.Undo(0)
	got(t, "the first, all undone", s, 0, variable(0), api.OK)
}

// TestP8_2Size: a term may have just so many parts; those of what variables are bound to count, each time.
func TestP8_2Size(t *testing.T) {
	s := made(t, 1<<20)
	x, a := variable(0), atom("a")
	for _, c := range []struct {
		what string
		x    api.Term
		v    api.Term // what the variable of it is
		want api.Errno
	}{
		{"the most", sized(api.MaxSize, x), a, api.OK},
		{"one more", sized(api.MaxSize, x), comp("g", a), api.ErrLong},
		{"one fewer", sized(api.MaxSize-1, x), comp("g", a), api.OK},
		{"twice, the most", comp("f", x, x, a, a, a), sized(api.MaxSize/2-2, a), api.OK},
		{"twice, one more", comp("f", x, x, a, a, a, a), sized(api.MaxSize/2-2, a), api.ErrLong},
		{"far more", comp("f", repeated(api.MaxArity, x)...), sized(api.MaxSize, a), api.ErrLong},
	} {
		vars := map[int64]int{0: fresh(t, s)}
		at := put(t, s, c.x, vars)
		bind(t, s, vars[0], put(t, s, c.v, nil))
		want := api.Term{}
		if c.want == api.OK {
			want = replaced(c.x, 0, c.v)
		}
		got(t, c.what, s, at, want, c.want)
	}
}

// replaced is a term with another one instead of a variable.
func replaced(t api.Term, n int64, by api.Term) api.Term {
	if t.Kind == api.Var && t.N == n {
		return by
	}
	var args []api.Term
	for _, a := range t.Args {
		args = append(args, replaced(a, n, by))
	}
	t.Args = args
	return t
}

// TestP8_2Deep: a term may be just so deep, whatever ways lead there.
func TestP8_2Deep(t *testing.T) {
	s := made(t, 1<<20)
	x, a := variable(0), atom("a")
	long := sized(api.MaxSize, a)
	for _, c := range []struct {
		what string
		x    api.Term
		v    api.Term
		want api.Errno
	}{
		{"the deepest", chain(api.MaxDeep, x), a, api.OK},
		{"one deeper", chain(api.MaxDeep, x), comp("g", a), api.ErrDeep},
		{"one higher", chain(api.MaxDeep-1, x), comp("g", a), api.OK},
		{"two halves", chain(1001, x), chain(1000, a), api.OK},
		{"two halves, one deeper", chain(1001, x), chain(1001, a), api.ErrDeep},
		{"deep on the left", comp("f", chain(api.MaxDeep, x), a), a, api.ErrDeep},
		{"deep on the right", comp("f", a, chain(api.MaxDeep-1, x)), comp("g", a), api.ErrDeep},
		{"long, then the deepest", comp("f", long, chain(api.MaxDeep-1, x)), a, api.ErrLong},
		{"long, then deeper", comp("f", long, chain(api.MaxDeep-1, x)), comp("g", a), api.ErrDeep},
		{"the deepest, then long", comp("f", chain(api.MaxDeep-1, x), long), a, api.ErrLong},
		{"deeper, then long", comp("f", chain(api.MaxDeep-1, x), long), comp("g", a), api.ErrDeep},
		{"long, high up and as deep as may be", comp("f", long, x, chain(1000, x)), chain(1000, a), api.ErrLong},
		{"long, high up and deeper", comp("f", long, x, chain(1000, x)), chain(1001, a), api.ErrDeep},
		{"long, deep down and then high up", comp("f", long, chain(1000, x), x), chain(1000, a), api.ErrLong},
		{"long, deep by its left, deeper at the second place", comp("f", long, x, chain(1000, x)), comp("g", chain(1000, a), a), api.ErrDeep},
		{"long, deep by its left, not too deep at the second place", comp("f", long, x, chain(1000, x)), comp("g", chain(999, a), a), api.ErrLong},
		{"long, the deepest twice", comp("f", long, chain(1000, x), chain(1000, x)), chain(1000, a), api.ErrLong},
	} {
		vars := map[int64]int{0: fresh(t, s)}
		at := putParts(t, s, c.x, vars)
		bind(t, s, vars[0], put(t, s, c.v, nil))
		want := api.Term{}
		if c.want == api.OK {
			want = replaced(c.x, 0, c.v)
		}
		got(t, c.what, s, at, want, c.want)
	}
}

// putParts puts a term that may be too much for one Put: its Args are variables at first.
func putParts(t *testing.T, s *store.Store, x api.Term, vars map[int64]int) int {
	var args []api.Term
	cells := map[int64]int{}
	for i, a := range x.Args {
		args = append(args, variable(int64(i)))
		cells[int64(i)] = put(t, s, a, vars)
	}
	return put(t, s, comp(x.S, args...), cells)
}

// doubled is a cell whose term is so deep, and has each part below it twice: too many parts ever to be gone through.
func doubled(t *testing.T, s *store.Store, deep int) int {
	at := put(t, s, atom("a"), nil)
	for range deep - 1 {
		at = put(t, s, comp("f", variable(0), variable(0)), map[int64]int{0: at})
	}
	return at
}

func TestP8_2Doubled(t *testing.T) {
	for deep, want := range map[int]api.Errno{
		1: api.OK, 2: api.OK, 14: api.OK, 15: api.ErrLong, 60: api.ErrLong, 100: api.ErrLong,
		api.MaxDeep: api.ErrLong, api.MaxDeep + 1: api.ErrDeep, 10 * api.MaxDeep: api.ErrDeep,
	} {
		s := made(t, 1<<20)
		at := doubled(t, s, deep)
		x, e := s.Get(at)
		if e != want || (x.Kind != 0) != (want == api.OK) {
			t.Errorf("%d deep: error %d, want %d", deep, e, want)
		}
		v := fresh(t, s)
		at = put(t, s, comp("g", variable(0), variable(1), variable(0)), map[int64]int{0: at, 1: v})
		for range 2 { // a part deep down, behind what can't be gone through, turns it
			if want == api.OK || want == api.ErrLong && deep < api.MaxDeep {
				got(t, "beside it", s, v, variable(int64(v)), api.OK)
				if _, e := s.Get(at); deep > 14 && e != api.ErrLong {
					t.Errorf("%d deep, in another one: error %d", deep, e)
				}
			}
			mark := s.Mark()
			bind(t, s, v, put(t, s, chain(api.MaxDeep, atom("a")), nil))
			got(t, "a deep part", s, at, api.Term{}, api.ErrDeep)
			s.Undo(mark)
		}
	}
}

// TestP8_2Endless: what has itself as a part is too deep, be it wide or not.
func TestP8_2Endless(t *testing.T) {
	x, y, a := variable(0), variable(1), atom("a")
	wide := repeated(api.MaxArity, a)
	wide[api.MaxArity-1] = x
	for _, l := range [][2]api.Term{
		{comp("f", x), a},
		{comp("f", x, x), a},
		{comp("f", repeated(api.MaxArity, x)...), a},
		{comp("f", wide...), a},
		{comp("f", a, comp("g", a, x), a), a},
		{comp("f", y), comp("g", x)},
		{comp("f", y, y, y), comp("g", x, a, y, x)},
		{comp("f", sized(api.MaxSize-2, a), y), comp("g", y)},
	} {
		s := made(t, 1<<20)
		vars := map[int64]int{0: fresh(t, s), 1: fresh(t, s)}
		first, second := put(t, s, l[0], vars), put(t, s, l[1], vars)
		bind(t, s, vars[0], first)
		bind(t, s, vars[1], second)
		got(t, show(l[0]), s, first, api.Term{}, api.ErrDeep)
		got(t, show(l[0]), s, vars[0], api.Term{}, api.ErrDeep)
		if s.Follow(vars[0]) != first {
			t.Errorf("%s: Follow: %d", show(l[0]), s.Follow(vars[0]))
		}
		s.Undo(0)
		if x, e := s.Get(first); e != api.OK || x.S != "f" {
			t.Errorf("%s, undone: %s, error %d", show(l[0]), show(x), e)
		}
	}
}
