package store

import "prolix/api"

// getter gets one term; it gives up where that turns out to be too much.
type getter struct {
	store *Store
	parts int
	wrong api.Errno
}

// get is the term of a cell that lies so deep; nothing, if there is something wrong.
func (g *getter) get(at, deep int) api.Term {
	g.parts++
	switch {
	case deep > api.MaxDeep:
		g.wrong = api.ErrDeep
	case g.parts > api.MaxSize:
		g.wrong = api.ErrLong
	}
	if g.wrong != api.OK {
		return api.Term{}
	}
	c := &g.store.cells[g.store.follow(at)]
	t := c.part()
	if c.kind == api.Comp {
		t.Args = g.args(c.args, deep+1)
	}
	return t
}

func (g *getter) args(cells []int, deep int) []api.Term {
	l := make([]api.Term, len(cells))
	for i, at := range cells {
		l[i] = g.get(at, deep)
		if g.wrong != api.OK {
			return nil
		}
	}
	return l
}

// tooDeep says whether a cell's term is deeper than it may be, however many parts it has.
func (s *Store) tooDeep(at int) bool {
	d := depths{store: s, known: make([]int, len(s.cells))}
	return d.of(at, api.MaxDeep) > api.MaxDeep
}

// depths are how deep cells' terms are. Each is found out once: what stands in many places would take too long otherwise.
type depths struct {
	store *Store
	known []int // by cells; 0: it isn't known
}

// of is how deep a cell's term is; one more than the limit, if it is deeper than that, since it may be so without end.
func (d depths) of(at, limit int) int {
	if limit == 0 {
		return 1
	}
	at = d.store.follow(at)
	if d.known[at] > 0 {
		return min(d.known[at], limit+1)
	}
	deep := 1
	for _, a := range d.store.cells[at].args {
		deep = max(deep, 1+d.of(a, limit-1))
		if deep > limit {
			return deep
		}
	}
	d.known[at] = deep
	return deep
}
