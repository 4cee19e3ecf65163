package store_test

import (
	"maps"
	"math"
	"strings"
	"testing"

	"prolix/api"
	"prolix/store"
)

func TestP8_1New(t *testing.T) {
	for cells, want := range map[int]api.Errno{
		1: api.OK, 2: api.OK, 1<<24 - 1: api.OK, 1 << 24: api.OK,
		0: api.ErrArg, -1: api.ErrArg, 1<<24 + 1: api.ErrArg, math.MinInt: api.ErrArg, math.MaxInt: api.ErrArg,
	} {
		s, e := store.New(cells)
		if e != want || (s == nil) != (want != api.OK) {
			t.Errorf("New(%d): %v, error %d, want error %d", cells, s, e, want)
		}
		if s.Cells() != 0 || s.Trail() != 0 || s.Mark() != 0 {
			t.Errorf("New(%d): %d cells, %d bindings", cells, s.Cells(), s.Trail())
		}
	}
}

// TestP8_1NewRoom: a store may have so many cells, no more and no fewer; those that are given back may be had again.
func TestP8_1NewRoom(t *testing.T) {
	for _, room := range []int{1, 2, 3, 100, 5000} {
		s := made(t, room)
		for again := range 2 {
			for want := range room {
				if at, e := s.Fresh(); at != want || e != api.OK {
					t.Fatalf("room %d, time %d: Fresh: %d, error %d, want %d", room, again, at, e, want)
				}
			}
			for range 2 {
				if at, e := s.Fresh(); at != 0 || e != api.ErrFull || s.Cells() != room {
					t.Fatalf("room %d, time %d: Fresh: %d, error %d, %d cells", room, again, at, e, s.Cells())
				}
			}
			if e := s.Cut(0); e != api.OK {
				t.Fatalf("Cut: error %d", e)
			}
		}
	}
}

// TestP8_1Unmade: a store that New didn't make has no room.
func TestP8_1Unmade(t *testing.T) {
	var s store.Store
	if at, e := s.Fresh(); at != 0 || e != api.ErrFull {
		t.Errorf("Fresh: %d, error %d", at, e)
	}
	if at, e := s.Put(atom("a"), nil); at != 0 || e != api.ErrFull {
		t.Errorf("Put: %d, error %d", at, e)
	}
}

func TestP8_1Fresh(t *testing.T) {
	s := made(t, 10)
	for want := range 3 {
		if at := fresh(t, s); at != want || s.Cells() != want+1 || s.Follow(at) != at {
			t.Errorf("Fresh: %d, want %d; %d cells; it is %d", at, want, s.Cells(), s.Follow(at))
		}
		looked(t, "Fresh", s, want, variable(int64(want)))
		got(t, "Fresh", s, want, variable(int64(want)), api.OK)
	}
	put(t, s, comp("f", atom("a")), nil)
	if at := fresh(t, s); at != 5 {
		t.Errorf("Fresh behind f(a): %d", at)
	}
}

// TestP8_1Put: which cells a term is put in.
func TestP8_1Put(t *testing.T) {
	s := made(t, 100)
	x, y := variable(5), variable(9)
	vars := map[int64]int{}
	if at := put(t, s, comp("f", atom("a"), comp("g", x, whole(7)), x, y), vars); at != 0 || s.Cells() != 6 {
		t.Errorf("%d, %d cells", at, s.Cells())
	}
	looked(t, "f", s, 0, api.Term{Kind: api.Comp, S: "f"}, 1, 2, 3, 5)
	looked(t, "a", s, 1, atom("a"))
	looked(t, "g", s, 2, api.Term{Kind: api.Comp, S: "g"}, 3, 4)
	looked(t, "X", s, 3, variable(3))
	looked(t, "7", s, 4, whole(7))
	looked(t, "Y", s, 5, variable(5))
	if want := map[int64]int{5: 3, 9: 5}; !maps.Equal(vars, want) {
		t.Errorf("vars %v, want %v", vars, want)
	}
	if at := put(t, s, comp("h", y, variable(0), x), vars); at != 6 || s.Cells() != 8 {
		t.Errorf("%d, %d cells", at, s.Cells())
	}
	looked(t, "h", s, 6, api.Term{Kind: api.Comp, S: "h"}, 5, 7, 3)
	if want := map[int64]int{5: 3, 9: 5, 0: 7}; !maps.Equal(vars, want) {
		t.Errorf("vars %v, want %v", vars, want)
	}
}

// TestP8_1PutEach: what is no variable takes a cell each time, the same one too.
func TestP8_1PutEach(t *testing.T) {
	s := made(t, 100)
	for want, x := range []api.Term{whole(0), whole(math.MinInt64), whole(math.MaxInt64), atom(""), atom("a"), atom("a"), atom("\x00\xff"), atom(strings.Repeat("n", api.MaxName))} {
		if at := put(t, s, x, nil); at != want {
			t.Errorf("%s: %d, want %d", show(x), at, want)
		}
		looked(t, "alone", s, want, x)
	}
	if at := put(t, s, comp("f", atom("a"), atom("a"), comp("f", atom("a"))), nil); at != 8 || s.Cells() != 13 {
		t.Errorf("%d, %d cells", at, s.Cells())
	}
	looked(t, "f(a, a, f(a))", s, 8, api.Term{Kind: api.Comp, S: "f"}, 9, 10, 11)
	looked(t, "f(a)", s, 11, api.Term{Kind: api.Comp, S: "f"}, 12)
}

// TestP8_1PutTold: a variable that is told is that cell, whatever it holds, and no other one.
func TestP8_1PutTold(t *testing.T) {
	s := made(t, 20)
	put(t, s, comp("f", atom("a")), nil) // 0, 1
	v, w := fresh(t, s), fresh(t, s)
	bind(t, s, v, w)
	bind(t, s, w, 0)
	vars := map[int64]int{1: 0, 2: v, 3: w, math.MaxInt64: 1}
	for n, want := range vars {
		if at := put(t, s, variable(n), vars); at != want || s.Cells() != 4 {
			t.Errorf("_%d: %d, want %d, %d cells", n, at, want, s.Cells())
		}
	}
	at := put(t, s, comp("g", variable(3), variable(2), variable(1), variable(math.MaxInt64), variable(0)), vars)
	looked(t, "g", s, at, api.Term{Kind: api.Comp, S: "g"}, 3, 2, 0, 1, 5)
	if want := map[int64]int{0: 5, 1: 0, 2: 2, 3: 3, math.MaxInt64: 1}; !maps.Equal(vars, want) {
		t.Errorf("vars %v, want %v", vars, want)
	}
}

// TestP8_1PutUntold: without vars each Put has variables of its own, that are the same within it; an empty vars is told of them.
func TestP8_1PutUntold(t *testing.T) {
	s := made(t, 20)
	x := variable(0)
	looks := func(at int, args ...int) {
		t.Helper()
		looked(t, "f", s, at, api.Term{Kind: api.Comp, S: "f"}, args...)
	}
	looks(put(t, s, comp("f", x, x), nil), 1, 1)
	looks(put(t, s, comp("f", x, x), nil), 3, 3)
	looks(put(t, s, comp("f", x, x), map[int64]int{}), 5, 5)
	if at := put(t, s, x, nil); at != 6 {
		t.Errorf("a variable alone: %d", at)
	}
	vars := map[int64]int{}
	if at := put(t, s, x, vars); at != 7 || !maps.Equal(vars, map[int64]int{0: 7}) {
		t.Errorf("a variable alone: %d, vars %v", at, vars)
	}
}

// refused holds that a Put is refused, and that nothing is changed by it.
func refused(t *testing.T, what string, s *store.Store, x api.Term, vars map[int64]int, want api.Errno) {
	t.Helper()
	cells, before := s.Cells(), maps.Clone(vars)
	at, e := s.Put(x, vars)
	if at != 0 || e != want {
		t.Errorf("%s: %d, error %d, want error %d", what, at, e, want)
	}
	if s.Cells() != cells || !maps.Equal(vars, before) {
		t.Errorf("%s: %d cells, were %d; vars %v, were %v", what, s.Cells(), cells, vars, before)
	}
}

func TestP8_1PutChecked(t *testing.T) {
	s := made(t, 1<<20)
	a := atom("a")
	put(t, s, chain(api.MaxDeep, a), nil)
	put(t, s, sized(api.MaxSize, a), nil)
	if s.Cells() != api.MaxDeep+api.MaxSize {
		t.Errorf("%d cells", s.Cells())
	}
	for what, x := range map[string]api.Term{
		"nothing":              {},
		"a Kind of none":       {Kind: 5},
		"a variable below 0":   variable(-1),
		"a variable's name":    {Kind: api.Var, S: "X"},
		"an integer's name":    {Kind: api.Int, S: "1"},
		"an atom's number":     {Kind: api.Atom, N: 1},
		"an atom's Args":       {Kind: api.Atom, Args: []api.Term{a}},
		"too long a name":      atom(strings.Repeat("n", api.MaxName+1)),
		"no Args":              comp("f"),
		"too many Args":        comp("f", repeated(api.MaxArity+1, a)...),
		"a bad part":           comp("f", variable(0), comp("g", variable(1), variable(-1)), variable(2)),
		"too deep, a bad part": chain(api.MaxDeep+1, variable(-1)),
	} {
		refused(t, what, s, x, map[int64]int{7: 0}, api.ErrArg)
		refused(t, what, s, x, nil, api.ErrArg)
	}
	refused(t, "too deep", s, chain(api.MaxDeep+1, variable(0)), map[int64]int{}, api.ErrDeep)
	refused(t, "too long", s, sized(api.MaxSize+1, variable(0)), map[int64]int{}, api.ErrLong)
	refused(t, "too deep and too long", s, comp("f", sized(api.MaxSize, a), chain(api.MaxDeep, variable(0))), map[int64]int{}, api.ErrDeep)
}

// TestP8_1PutMistold: vars may tell of a term's variables only cells that there are when Put is called.
func TestP8_1PutMistold(t *testing.T) {
	s := made(t, 50)
	fresh(t, s)
	fresh(t, s)
	x := comp("f", variable(0), variable(1), comp("g", variable(2)))
	for _, at := range []int{-1, 2, 3, 4, 50, math.MinInt, math.MaxInt} {
		for n := range int64(3) {
			refused(t, "one of three", s, x, map[int64]int{n: at}, api.ErrArg)
			refused(t, "one of three, others told", s, x, map[int64]int{0: 0, 1: 0, 2: 1, n: at}, api.ErrArg)
		}
		refused(t, "alone", s, variable(7), map[int64]int{7: at}, api.ErrArg)
		vars := map[int64]int{3: at, -1: at, 7: 0}
		put(t, s, comp("f", variable(7)), vars)
		if want := map[int64]int{3: at, -1: at, 7: 0}; !maps.Equal(vars, want) {
			t.Errorf("vars %v, want %v", vars, want)
		}
		if e := s.Cut(2); e != api.OK {
			t.Fatalf("Cut: error %d", e)
		}
	}
}

// TestP8_1PutFull: a term is put where there is just room for it, and refused where there is one cell less.
func TestP8_1PutFull(t *testing.T) {
	for _, c := range []struct {
		what   string
		x      api.Term
		needed int
	}{
		{"a variable", variable(5), 1},
		{"a variable that is told", variable(0), 0},
		{"an integer", whole(1), 1},
		{"an atom", atom("a"), 1},
		{"a compound", comp("f", atom("a"), atom("a")), 3},
		{"one variable thrice", comp("f", variable(5), comp("g", variable(5)), variable(5)), 3},
		{"two variables", comp("f", variable(5), variable(6), variable(5)), 3},
		{"told ones", comp("f", variable(0), variable(1), variable(0)), 1},
		{"told and new ones", comp("f", variable(0), variable(5), comp("g", variable(1), variable(5), whole(1))), 4},
		{"many", sized(1000, variable(0)), 999},
	} {
		for room := c.needed; room >= 0 && room >= c.needed-2; room-- {
			s := made(t, 2+room)
			fresh(t, s)
			fresh(t, s)
			vars := map[int64]int{0: 0, 1: 1}
			if room < c.needed {
				refused(t, c.what, s, c.x, vars, api.ErrFull)
				continue
			}
			put(t, s, c.x, vars)
			if s.Cells() != 2+c.needed {
				t.Errorf("%s: %d cells, want %d", c.what, s.Cells(), 2+c.needed)
			}
			refused(t, c.what+", another", s, atom("a"), nil, api.ErrFull)
		}
	}
}

// TestP8_1PutFirst: of several errors the first one is told.
func TestP8_1PutFirst(t *testing.T) {
	s := made(t, 1)
	x := variable(0)
	refused(t, "deep, mistold, full", s, chain(api.MaxDeep+1, x), map[int64]int{0: 9}, api.ErrDeep)
	refused(t, "long, mistold, full", s, sized(api.MaxSize+1, x), map[int64]int{0: 9}, api.ErrLong)
	refused(t, "mistold, full", s, comp("f", atom("a"), x), map[int64]int{0: 9}, api.ErrArg)
	refused(t, "mistold, full ahead", s, comp("f", atom("a"), variable(1), atom("b"), x), map[int64]int{0: -1}, api.ErrArg)
	refused(t, "full", s, comp("f", atom("a"), x), map[int64]int{}, api.ErrFull)
}

// TestP8_1Objects: stores are independent of one another.
func TestP8_1Objects(t *testing.T) {
	s, other := made(t, 5), made(t, 5)
	put(t, s, comp("f", variable(0)), nil)
	put(t, other, atom("b"), nil)
	bind(t, s, 1, 0)
	looked(t, "the other one", other, 0, atom("b"))
	if other.Cells() != 1 || other.Trail() != 0 || s.Cells() != 2 || s.Trail() != 1 {
		t.Errorf("%d and %d cells, %d and %d bindings", s.Cells(), other.Cells(), s.Trail(), other.Trail())
	}
}

// TestP8_1Nil: a nil Store answers zero, and ErrNil, whatever it is asked.
func TestP8_1Nil(t *testing.T) {
	var s *store.Store
	vars := map[int64]int{}
	for _, n := range []int{0, -1, 1, math.MaxInt, math.MinInt} {
		if e := s.Bind(n, n); e != api.ErrNil {
			t.Errorf("Bind: error %d", e)
		}
		if e := s.Cut(n); e != api.ErrNil {
			t.Errorf("Cut: error %d", e)
		}
		if at := s.Follow(n); at != 0 {
			t.Errorf("Follow: %d", at)
		}
		got(t, "nil", s, n, api.Term{}, api.ErrNil)
		looked(t, "nil", s, n, api.Term{})
		s.Undo(n)
	}
	refused(t, "nil", s, comp("f", variable(0)), vars, api.ErrNil)
	refused(t, "nil", s, api.Term{}, vars, api.ErrNil)
	refused(t, "nil", s, atom("a"), nil, api.ErrNil)
	if at, e := s.Fresh(); at != 0 || e != api.ErrNil {
		t.Errorf("Fresh: %d, error %d", at, e)
	}
	if s.Cells() != 0 || s.Trail() != 0 || s.Mark() != 0 {
		t.Errorf("%d cells, %d bindings, mark %d", s.Cells(), s.Trail(), s.Mark())
	}
}
