package term

import (
	"strings"

	"prolix/api"
)

// copies are terms like those of l that share no memory with them.
func copies(l ...api.Term) []api.Term {
	made := room(len(l))
	m := maker{from(made...)}
	through(m.fill, l...)
	return made
}

// maker makes terms of the parts that it is handed, in memory of their own.
type maker struct{ made way }

// fill fills the next place with a part, and makes places for its Args: so the way through what is made goes on as the one through what is found.
func (m *maker) fill(part *api.Term, _ int) bool {
	*m.made.next() = api.Term{Kind: part.Kind, N: part.N, S: strings.Clone(part.S), Args: room(len(part.Args))}
	return true
}

// room is a list of n places, nil if n is 0: so an answer looks as a term that is written out.
func room(n int) []api.Term {
	if n == 0 {
		return nil
	}
	return make([]api.Term, n)
}
