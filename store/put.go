package store

import (
	"slices"
	"strings"

	"prolix/api"
	"prolix/term"
)

// mayPut says whether the cells that vars tells of are there, and as many left as a term would take.
func (s *Store) mayPut(t api.Term, vars map[int64]int) api.Errno {
	needed := others(t)
	for _, n := range term.Vars(t) {
		at, told := vars[n]
		switch {
		case !told:
			needed++
		case !s.has(at):
			return api.ErrArg
		}
	}
	if needed > s.left() {
		return api.ErrFull
	}
	return api.OK
}

// others is how many parts a term has that are no variables.
func others(t api.Term) int {
	if t.Kind == api.Var {
		return 0
	}
	n := 1
	for _, a := range t.Args {
		n += others(a)
	}
	return n
}

// put puts what may be put; its calls are nested as deep as the term, so no deeper than MaxDeep.
func (s *Store) put(t api.Term, vars map[int64]int, inner bool) int {
	if t.Kind != api.Var {
		return s.other(t, vars, inner)
	}
	at, told := vars[t.N]
	if !told {
		at = s.variable(inner)
		vars[t.N] = at
	}
	return at
}

func (s *Store) other(t api.Term, vars map[int64]int, inner bool) int {
	at := s.add(cell{kind: t.Kind, n: t.N, s: strings.Clone(t.S), inner: inner}) // what is handed in isn't kept
	args := make([]int, len(t.Args))
	for i, a := range t.Args {
		args[i] = s.put(a, vars, true)
	}
	s.cells[at].args = args
	return at
}

func (s *Store) variable(inner bool) int {
	return s.add(cell{kind: api.Var, n: int64(len(s.cells)), inner: inner})
}

func (s *Store) add(c cell) int {
	if len(s.cells) == cap(s.cells) {
		// Twice as many each time: append alone would make far less room at once, and copy a great store again and again.
		s.cells = slices.Grow(s.cells, min(len(s.cells)+8, s.left()))
	}
	s.cells = append(s.cells, c)
	return len(s.cells) - 1
}
