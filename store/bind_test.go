package store_test

import (
	"math"
	"testing"

	"prolix/api"
	"prolix/store"
)

// bound is a store with the cells 0 f(1, 2), 1 and 2 free, 3 a, 4 free and bound to 3, 5 7, 6 free.
func bound(t *testing.T) *store.Store {
	s := made(t, 20)
	put(t, s, comp("f", variable(0), variable(1)), nil)
	put(t, s, atom("a"), nil)
	fresh(t, s)
	put(t, s, whole(7), nil)
	fresh(t, s)
	bind(t, s, 4, 3)
	return s
}

func TestP8_3Bind(t *testing.T) {
	for _, c := range []struct {
		v, to   int
		want    api.Errno
		is, was int // what v, followed, is then, and how many bindings there are more
	}{
		{1, 2, api.OK, 2, 1},
		{2, 1, api.OK, 1, 1},
		{1, 0, api.OK, 0, 1},
		{1, 3, api.OK, 3, 1},
		{1, 4, api.OK, 3, 1},
		{6, 5, api.OK, 5, 1},
		{1, 1, api.OK, 1, 0},
		{6, 6, api.OK, 6, 0},
		{0, 1, api.ErrArg, 0, 0},
		{0, 0, api.ErrArg, 0, 0},
		{3, 3, api.ErrArg, 3, 0},
		{3, 1, api.ErrArg, 3, 0},
		{4, 1, api.ErrArg, 3, 0},
		{4, 3, api.ErrArg, 3, 0},
		{4, 4, api.ErrArg, 3, 0},
		{5, 5, api.ErrArg, 5, 0},
	} {
		s := bound(t)
		if e := s.Bind(c.v, c.to); e != c.want {
			t.Errorf("Bind(%d, %d): error %d, want %d", c.v, c.to, e, c.want)
		}
		if s.Follow(c.v) != c.is || s.Trail() != 1+c.was || s.Mark() != 1+c.was || s.Cells() != 7 {
			t.Errorf("Bind(%d, %d): %d, %d bindings, %d cells", c.v, c.to, s.Follow(c.v), s.Trail(), s.Cells())
		}
	}
}

func TestP8_3BindNone(t *testing.T) {
	s := bound(t)
	for _, at := range strangers(7) {
		for _, c := range [][2]int{{at, 1}, {1, at}, {at, at}, {at, 3}, {3, at}} {
			if e := s.Bind(c[0], c[1]); e != api.ErrArg || s.Trail() != 1 {
				t.Errorf("Bind(%d, %d): error %d, %d bindings", c[0], c[1], e, s.Trail())
			}
		}
	}
}

// TestP8_3BindFollowed: it is the last of each row of bound cells that is bound; the others stay bound to it.
func TestP8_3BindFollowed(t *testing.T) {
	s := made(t, 10)
	for range 6 {
		fresh(t, s)
	}
	bind(t, s, 0, 1)
	bind(t, s, 2, 3)
	bind(t, s, 0, 2) // 1 to 3
	for at, want := range []int{3, 3, 3, 3, 4, 5} {
		if s.Follow(at) != want {
			t.Errorf("Follow(%d): %d, want %d", at, s.Follow(at), want)
		}
	}
	for _, c := range [][2]int{{0, 3}, {3, 0}, {1, 2}, {2, 1}, {0, 0}} {
		bind(t, s, c[0], c[1])
	}
	if s.Trail() != 3 {
		t.Errorf("%d bindings", s.Trail())
	}
	bind(t, s, 4, 1) // to 3
	bind(t, s, 3, 5)
	for at := range 6 {
		if s.Follow(at) != 5 {
			t.Errorf("Follow(%d): %d", at, s.Follow(at))
		}
	}
	s.Undo(2)
	for at, want := range []int{1, 1, 3, 3, 4, 5} {
		if s.Follow(at) != want {
			t.Errorf("undone: Follow(%d): %d, want %d", at, s.Follow(at), want)
		}
	}
}

// TestP8_3Undo: of four bindings the last ones are undone, until there are so many.
func TestP8_3Undo(t *testing.T) {
	for mark, want := range map[int]int{0: 0, 1: 1, 3: 3, 4: 4, 5: 4, math.MaxInt: 4, -1: 0, -2: 0, math.MinInt: 0} {
		s := made(t, 10)
		for range 5 {
			fresh(t, s)
		}
		for at := range 4 {
			if s.Mark() != at || s.Trail() != at {
				t.Errorf("Mark: %d, Trail: %d, want %d", s.Mark(), s.Trail(), at)
			}
			bind(t, s, at, at+1)
		}
		s.Undo(mark)
		if s.Mark() != want || s.Trail() != want || s.Cells() != 5 {
			t.Errorf("Undo(%d): %d bindings, want %d, %d cells", mark, s.Mark(), want, s.Cells())
		}
		for at := range 5 {
			is := at
			if at < want {
				is = want
			}
			if s.Follow(at) != is {
				t.Errorf("Undo(%d): Follow(%d): %d, want %d", mark, at, s.Follow(at), is)
			}
		}
	}
}

// TestP8_3Again: what was undone may be bound otherwise, and undone again.
func TestP8_3Again(t *testing.T) {
	s := bound(t)
	for range 3 {
		mark := s.Mark()
		bind(t, s, 1, 3)
		got(t, "first", s, 0, comp("f", atom("a"), variable(2)), api.OK)
		s.Undo(mark)
		bind(t, s, 2, 5)
		bind(t, s, 1, 2)
		got(t, "then", s, 0, comp("f", whole(7), whole(7)), api.OK)
		s.Undo(mark)
		got(t, "undone", s, 0, comp("f", variable(1), variable(2)), api.OK)
	}
}

// TestP8_3Cells: undone bindings give no cells back.
func TestP8_3Cells(t *testing.T) {
	s := bound(t)
	mark := s.Mark()
	bind(t, s, 1, put(t, s, comp("g", variable(0)), nil))
	s.Undo(mark)
	if s.Cells() != 9 {
		t.Errorf("%d cells", s.Cells())
	}
	got(t, "what was put meanwhile", s, 7, comp("g", variable(8)), api.OK)
}
