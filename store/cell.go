package store

import (
	"strings"

	"prolix/api"
)

// cell is what a cell holds; what its kind hasn't is zero.
type cell struct {
	kind  int
	n     int64 // an Int's number; the cell that a variable is bound to, while it is free its own
	s     string
	args  []int
	inner bool // was it put as an Arg?
}

// part is a cell's term without its Args; of a variable, if it is free.
func (c *cell) part() api.Term {
	return api.Term{Kind: c.kind, N: c.n, S: strings.Clone(c.s)} // an answer shares no memory with the store
}

// has says whether there is such a cell.
func (s *Store) has(at int) bool { return at >= 0 && at < s.Cells() }

// left is how many cells there may be yet.
func (s *Store) left() int { return s.room - len(s.cells) }

func (s *Store) follow(at int) int {
	for s.cells[at].kind == api.Var && s.cells[at].n != int64(at) {
		at = int(s.cells[at].n)
	}
	return at
}

func (s *Store) unbind(v int) { s.cells[v].n = int64(v) }

// divides says whether a cell with one of its Args stands on each side, if those from there on are given back.
//
// The cells of one Put stand in a row, each Comp's ahead of its Args', and those that were told stand ahead of the row: so it is just where an Arg's cell would go first.
func (s *Store) divides(from int) bool {
	return from < len(s.cells) && s.cells[from].inner
}
