package store_test

import (
	"slices"
	"strconv"
	"strings"
	"testing"

	"prolix/api"
	"prolix/store"
)

func variable(n int64) api.Term { return api.Term{Kind: api.Var, N: n} }
func whole(n int64) api.Term    { return api.Term{Kind: api.Int, N: n} }
func atom(s string) api.Term    { return api.Term{Kind: api.Atom, S: s} }

func comp(s string, args ...api.Term) api.Term {
	return api.Term{Kind: api.Comp, S: s, Args: args}
}

// chain is a term so deep: f of f of .. of the last one.
func chain(deep int, last api.Term) api.Term {
	for range deep - 1 {
		last = comp("f", last)
	}
	return last
}

// sized is a term of so many parts, the last of which is the last one; none has too many Args.
func sized(parts int, last api.Term) api.Term {
	if parts == 1 {
		return last
	}
	args := repeated(min(parts-1, api.MaxArity), atom("a"))
	args[len(args)-1] = sized(parts-len(args), last)
	return comp("f", args...)
}

// repeated is so many times a term.
func repeated(n int, t api.Term) []api.Term {
	return slices.Repeat([]api.Term{t}, n)
}

// same says whether two terms are; nil and empty lists are one.
func same(a, b api.Term) bool {
	return a.Kind == b.Kind && a.N == b.N && a.S == b.S && slices.EqualFunc(a.Args, b.Args, same)
}

// show is a term for a test's eyes: what lies too deep, or is too much, for them is left out.
func show(t api.Term) string { return showTo(t, 20) }

func showTo(t api.Term, deep int) string {
	switch {
	case deep == 0:
		return ".."
	case t.Kind == api.Var:
		return "_" + strconv.FormatInt(t.N, 10)
	case t.Kind == api.Int:
		return strconv.FormatInt(t.N, 10)
	case t.Kind == api.Atom:
		return strconv.Quote(t.S)
	}
	var texts []string
	for i, a := range t.Args {
		if i == 10 {
			texts = append(texts, "..")
			break
		}
		texts = append(texts, showTo(a, deep-1))
	}
	return strconv.Quote(t.S) + "(" + strings.Join(texts, " ") + ")"
}

// made is a store of so many cells.
func made(t *testing.T, cells int) *store.Store {
	t.Helper()
	s, e := store.New(cells)
	if s == nil || e != api.OK {
		t.Fatalf("New(%d): %v, error %d", cells, s, e)
	}
	return s
}

// put is the cell of a term that must be put.
func put(t *testing.T, s *store.Store, x api.Term, vars map[int64]int) int {
	t.Helper()
	at, e := s.Put(x, vars)
	if e != api.OK {
		t.Fatalf("Put of %s: error %d", show(x), e)
	}
	return at
}

// fresh is a new variable, for which there must be room.
func fresh(t *testing.T, s *store.Store) int {
	t.Helper()
	at, e := s.Fresh()
	if e != api.OK {
		t.Fatalf("Fresh: error %d", e)
	}
	return at
}

// bind binds what must be bound.
func bind(t *testing.T, s *store.Store, v, to int) {
	t.Helper()
	if e := s.Bind(v, to); e != api.OK {
		t.Fatalf("Bind(%d, %d): error %d", v, to, e)
	}
}

// got holds what Get tells of a cell.
func got(t *testing.T, what string, s *store.Store, at int, want api.Term, e api.Errno) {
	t.Helper()
	x, err := s.Get(at)
	if !same(x, want) || err != e {
		t.Errorf("%s: Get(%d): %s, error %d, want %s, error %d", what, at, show(x), err, show(want), e)
	}
}

// looked holds what Look tells of a cell.
func looked(t *testing.T, what string, s *store.Store, at int, want api.Term, args ...int) {
	t.Helper()
	x, l := s.Look(at)
	if !same(x, want) || !slices.Equal(l, args) {
		t.Errorf("%s: Look(%d): %s %v, want %s %v", what, at, show(x), l, show(want), args)
	}
}
