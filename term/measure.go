package term

import "prolix/api"

// measure is what is told of the parts that were found.
type measure struct {
	parts, deep int
	bad         bool
}

func (m *measure) take(_ *api.Term, deep int) bool {
	m.parts++
	m.deep = max(m.deep, deep)
	return true
}

// check takes a part, and goes on only if it may be: that one may not is told ahead of all else.
func (m *measure) check(part *api.Term, deep int) bool {
	m.bad = !mayBe(part)
	return !m.bad && m.take(part, deep)
}

// mayBe says whether a part may be, whatever its Args are.
func mayBe(part *api.Term) bool {
	args := len(part.Args)
	switch part.Kind {
	case api.Var:
		return part.N >= 0 && part.S == "" && args == 0
	case api.Int:
		return part.S == "" && args == 0
	case api.Atom:
		return part.N == 0 && len(part.S) <= api.MaxName && args == 0
	case api.Comp:
		return part.N == 0 && len(part.S) <= api.MaxName && 1 <= args && args <= api.MaxArity
	}
	return false
}
