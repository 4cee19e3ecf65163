package store_test

import (
	"math/rand"
	"slices"
	"testing"

	"prolix/api"
	"prolix/store"
	"prolix/term"
)

// TestP8_4Example is the chapter's.
func TestP8_4Example(t *testing.T) {
	s := made(t, 10)
	if at := put(t, s, comp("f", variable(0), variable(0)), nil); at != 0 || s.Cells() != 2 {
		t.Errorf("cell %d, %d cells", at, s.Cells())
	}
	bind(t, s, 1, put(t, s, atom("a"), nil))
	got(t, "bound", s, 0, comp("f", atom("a"), atom("a")), api.OK)
	s.Undo(0)
	got(t, "undone", s, 0, comp("f", variable(1), variable(1)), api.OK)
}

// leaves are terms without Args.
func leaves() []api.Term {
	return []api.Term{variable(0), variable(1), variable(1 << 40), whole(-1), whole(0), atom(""), atom("[]"), atom("a")}
}

// bushes are terms of a few parts: each name, with each few of these as its Args.
func bushes(names []string, args []api.Term) []api.Term {
	var l []api.Term
	for _, name := range names {
		for _, a := range args {
			l = append(l, comp(name, a))
			for _, b := range args {
				l = append(l, comp(name, a, b))
			}
		}
	}
	return l
}

// small are all leaves, some bushes, and bushes of these.
func small() []api.Term {
	l := append(leaves(), bushes([]string{"f", "."}, leaves())...)
	return append(l, bushes([]string{"g", ""}, []api.Term{variable(1), atom("a"), comp("f", variable(0), variable(1)), comp(".", variable(1), comp("f", variable(2)))})...)
}

// TestP8_4Got: what is put is got, its variables numbered by the cells that vars tells of.
func TestP8_4Got(t *testing.T) {
	l := append(small(), chain(api.MaxDeep, variable(3)), sized(api.MaxSize, variable(3)), comp("f", repeated(api.MaxArity, variable(3))...))
	s := made(t, 1<<24)
	for _, x := range l {
		vars := map[int64]int{1: fresh(t, s)}
		want := x
		at := put(t, s, x, vars)
		for _, n := range term.Vars(x) {
			want = replaced(want, n, variable(-1-int64(vars[n]))) // below 0, so that no number is replaced twice
		}
		got(t, show(x), s, at, above(want), api.OK)
		alone := put(t, s, x, nil)
		y, e := s.Get(alone)
		if e != api.OK || !same(term.Number(y), term.Number(x)) {
			t.Errorf("%s: %s, error %d", show(x), show(y), e)
		}
		if slices.ContainsFunc(term.Vars(y), func(n int64) bool { return n < int64(alone) }) {
			t.Errorf("%s: %s has an old variable", show(x), show(y))
		}
	}
}

// above is a term with variables from 0 on instead of those from -1 down.
func above(t api.Term) api.Term {
	if t.Kind == api.Var {
		return variable(-1 - t.N)
	}
	for i, a := range t.Args {
		t.Args[i] = above(a)
	}
	return t
}

// seen is all that is told of a cell.
type seen struct {
	is   int
	t    api.Term
	e    api.Errno
	look api.Term
	args []int
}

func (a seen) same(b seen) bool {
	return a.is == b.is && a.e == b.e && same(a.t, b.t) && same(a.look, b.look) && slices.Equal(a.args, b.args)
}

// see is all that is told of the first cells.
func see(s *store.Store, cells int) []seen {
	var l []seen
	for at := range cells {
		v := seen{is: s.Follow(at)}
		v.t, v.e = s.Get(at)
		v.look, v.args = s.Look(at)
		l = append(l, v)
	}
	return l
}

// TestP8_4Undone: undone, all cells that there were are as they were at the mark, within other marks too.
func TestP8_4Undone(t *testing.T) {
	for seed := range int64(40) {
		r := rand.New(rand.NewSource(seed))
		s := made(t, 1000)
		fresh(t, s)
		var within func(deep int)
		within = func(deep int) {
			for range 6 {
				s.Put(grown(r, 2), map[int64]int{0: r.Intn(s.Cells()), 1: r.Intn(s.Cells())})
				s.Bind(r.Intn(s.Cells()), r.Intn(s.Cells()))
			}
			cells, mark := s.Cells(), s.Mark()
			before := see(s, cells)
			for range r.Intn(20) {
				s.Bind(r.Intn(cells), r.Intn(cells))
			}
			if deep > 0 {
				within(deep - 1)
			}
			s.Undo(mark)
			if s.Mark() != mark || s.Trail() != mark || !slices.EqualFunc(see(s, cells), before, seen.same) {
				t.Fatalf("seed %d: %d bindings, were %d, or a cell isn't as it was", seed, s.Mark(), mark)
			}
		}
		within(3)
	}
}

// TestP8_4Backwards: what a search does: it marks, puts, binds, and goes back to where it was, cells too.
func TestP8_4Backwards(t *testing.T) {
	s := made(t, 100)
	at := put(t, s, comp("f", variable(0), variable(1)), nil)
	want, _ := s.Get(at)
	for range 1000 {
		mark, cells := s.Mark(), s.Cells()
		g := put(t, s, comp("g", variable(0), variable(1)), nil)
		bind(t, s, 1, g)
		bind(t, s, 2, g+1)
		cut(t, "bound", s, cells, api.ErrValue)
		s.Undo(mark)
		cut(t, "undone", s, cells, api.OK)
		got(t, "again", s, at, want, api.OK)
	}
}
