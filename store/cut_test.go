package store_test

import (
	"math"
	"testing"

	"prolix/api"
	"prolix/store"
)

// cut holds what Cut answers, and how many cells there are then.
func cut(t *testing.T, what string, s *store.Store, cells int, want api.Errno) {
	t.Helper()
	left := s.Cells()
	if want == api.OK {
		left = cells
	}
	if e := s.Cut(cells); e != want || s.Cells() != left {
		t.Errorf("%s: Cut(%d): error %d, want %d; %d cells, want %d", what, cells, e, want, s.Cells(), left)
	}
}

func TestP8_3Cut(t *testing.T) {
	s := made(t, 10)
	cut(t, "empty", s, 0, api.OK)
	for _, n := range []int{-1, 1, 10, math.MinInt, math.MaxInt} {
		cut(t, "empty", s, n, api.ErrArg)
	}
	put(t, s, atom("a"), nil)
	fresh(t, s)
	put(t, s, whole(1), nil)
	for _, n := range []int{-1, 4, 10, 11, math.MinInt, math.MaxInt} {
		cut(t, "three", s, n, api.ErrArg)
	}
	cut(t, "three", s, 3, api.OK)
	cut(t, "three", s, 2, api.OK)
	got(t, "given back", s, 2, api.Term{}, api.ErrArg)
	got(t, "kept", s, 1, variable(1), api.OK)
	cut(t, "two", s, 3, api.ErrArg)
	cut(t, "two", s, 0, api.OK)
	got(t, "given back", s, 0, api.Term{}, api.ErrArg)
}

// TestP8_3CutAgain: cells that were given back are new ones, when they come again.
func TestP8_3CutAgain(t *testing.T) {
	s := made(t, 4)
	put(t, s, comp("f", atom("a"), whole(7), variable(0)), nil)
	cut(t, "f", s, 0, api.OK)
	for want := range 4 {
		if at := fresh(t, s); at != want {
			t.Errorf("Fresh: %d, want %d", at, want)
		}
		looked(t, "new", s, want, variable(int64(want)))
	}
	for n := 4; n >= 0; n-- {
		cut(t, "variables", s, n, api.OK)
	}
}

// TestP8_3CutBound: a binding that isn't undone keeps its cells, on both its sides.
func TestP8_3CutBound(t *testing.T) {
	for _, c := range []struct{ v, to, least int }{{0, 1, 2}, {1, 0, 2}, {0, 4, 5}, {4, 0, 5}, {2, 3, 4}, {3, 2, 4}, {5, 4, 6}, {1, 1, 0}} {
		s := made(t, 10)
		for range 6 {
			fresh(t, s)
		}
		bind(t, s, c.v, c.to)
		for n := range c.least {
			cut(t, "bound", s, n, api.ErrValue)
		}
		cut(t, "bound", s, c.least, api.OK)
		s.Undo(0)
		cut(t, "undone", s, 0, api.OK)
	}
}

// TestP8_3CutRow: each of the bindings counts, the first and the last one too; those that are undone don't.
func TestP8_3CutRow(t *testing.T) {
	for _, row := range [][]int{{0, 5, 2, 3}, {2, 3, 0, 5}, {5, 4, 0, 1}, {0, 1, 5, 4}} {
		s := made(t, 10)
		for range 6 {
			fresh(t, s)
		}
		bind(t, s, row[0], row[1])
		bind(t, s, row[2], row[3])
		least := max(row[0], row[1], row[2], row[3]) + 1
		cut(t, "both", s, least-1, api.ErrValue)
		s.Undo(1)
		least = max(row[0], row[1]) + 1
		cut(t, "the first", s, least-1, api.ErrValue)
		cut(t, "the first", s, least, api.OK)
	}
}

// TestP8_3CutFollowed: a binding binds followed cells, and to followed ones: those that Bind was told aren't kept by it.
func TestP8_3CutFollowed(t *testing.T) {
	s := made(t, 10)
	put(t, s, atom("a"), nil) // 0
	for range 3 {
		fresh(t, s)
	}
	bind(t, s, 3, 0)
	bind(t, s, 1, 3) // to 0
	cut(t, "3 is bound", s, 3, api.ErrValue)
	s.Undo(0)
	bind(t, s, 1, 2)
	bind(t, s, 1, 0) // 2 to 0
	cut(t, "1 to 2, 2 to 0", s, 2, api.ErrValue)
	cut(t, "1 to 2, 2 to 0", s, 3, api.OK)
	s.Undo(1)
	cut(t, "1 to 2", s, 2, api.ErrValue)
	s.Undo(0)
	cut(t, "undone", s, 2, api.OK)
}

// TestP8_3CutArgs: a Comp that would stay keeps its Args' cells.
func TestP8_3CutArgs(t *testing.T) {
	s := made(t, 30)
	fresh(t, s)
	vars := map[int64]int{7: 0}
	// 1 f: 2 a, 3 g (4 _0, 5 h (6 1)), 0, 4; 7 a lone one
	put(t, s, comp("f", atom("a"), comp("g", variable(0), comp("h", whole(1))), variable(7), variable(0)), vars)
	put(t, s, atom("b"), nil)
	for n := 2; n <= 6; n++ {
		cut(t, "within f", s, n, api.ErrValue)
	}
	cut(t, "behind f", s, 7, api.OK)
	// 7 k: 0, 4: all its Args stand ahead of it
	put(t, s, comp("k", variable(7), variable(0)), vars)
	cut(t, "behind k", s, 8, api.OK)
	cut(t, "ahead of k", s, 7, api.OK)
	// 7 k: 0, 8 _1, 0
	put(t, s, comp("k", variable(7), variable(1), variable(7)), vars)
	cut(t, "within k", s, 8, api.ErrValue)
	for n := 2; n <= 6; n++ {
		cut(t, "within f", s, n, api.ErrValue)
	}
	cut(t, "ahead of f", s, 1, api.OK)
	got(t, "what is left", s, 0, variable(0), api.OK)
	cut(t, "all", s, 0, api.OK)
}

// TestP8_3CutBoundArg: it is what a Comp holds that counts, not what that, followed, is.
func TestP8_3CutBoundArg(t *testing.T) {
	s := made(t, 10)
	put(t, s, atom("a"), nil)
	put(t, s, comp("f", variable(0)), nil) // 1, 2
	bind(t, s, 2, 0)
	cut(t, "f(a)", s, 2, api.ErrValue)
	cut(t, "f(a)", s, 1, api.ErrValue)
	cut(t, "f(a)", s, 3, api.OK)
	s.Undo(0)
	cut(t, "f(_)", s, 2, api.ErrValue)
	cut(t, "f(_)", s, 1, api.OK)
}

// TestP8_3CutOften: what Cut asks takes no longer, the more cells and bindings there are.
func TestP8_3CutOften(t *testing.T) {
	const many = 1 << 20
	s := made(t, many)
	for range many / 2 {
		fresh(t, s)
	}
	for at := range many/2 - 1 {
		bind(t, s, at, at+1)
	}
	for range many {
		put(t, s, comp("f", atom("a")), nil)
		cut(t, "within f", s, many/2+1, api.ErrValue)
		cut(t, "f", s, many/2, api.OK)
	}
}
