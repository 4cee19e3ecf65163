package term

import (
	"cmp"

	"prolix/api"
)

// match holds the parts that are found against those of another term.
type match struct {
	other way
	sign  int
}

// hold goes on only while they are the same: so both ways are always at the same place.
func (m *match) hold(part *api.Term, _ int) bool {
	other := m.other.next()
	// What a Kind hasn't is zero in terms that may be: so one row serves for all Kinds.
	m.sign = cmp.Or(
		cmp.Compare(part.Kind, other.Kind),
		cmp.Compare(part.N, other.N),
		cmp.Compare(len(part.Args), len(other.Args)),
		cmp.Compare(part.S, other.S),
	)
	return m.sign == 0
}
