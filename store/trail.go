package store

// trail is the bindings that aren't undone, in the order in which they came.
type trail []binding

// binding is one of a variable.
type binding struct {
	v    int
	last int // of the cells that it and those ahead of it bind, and bind to
}

func (t *trail) add(v, to int) {
	*t = append(*t, binding{v, max(v, to, t.last())})
}

// last is the last cell that is bound, or that one is bound to; -1: there is none.
func (t *trail) last() int {
	if len(*t) == 0 {
		return -1
	}
	return (*t)[len(*t)-1].last
}

// back goes back to so many bindings; undo is done with the variable of each of the others, the last one first.
func (t *trail) back(many int, undo func(v int)) {
	many = max(many, 0)
	for len(*t) > many {
		last := len(*t) - 1
		undo((*t)[last].v)
		*t = (*t)[:last]
	}
}
