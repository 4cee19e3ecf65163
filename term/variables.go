package term

import "prolix/api"

// variables are those that were found.
type variables struct {
	met    []int64
	places map[int64]int64 // by their numbers: where they stand in met
}

func (v *variables) meet(part *api.Term, _ int) bool {
	if part.Kind != api.Var {
		return true
	}
	if _, ok := v.places[part.N]; !ok {
		v.places[part.N] = int64(len(v.met))
		v.met = append(v.met, part.N)
	}
	return true
}

// number gives a variable its place as its number.
func (v *variables) number(part *api.Term, deep int) bool {
	v.meet(part, deep)
	if part.Kind == api.Var {
		part.N = v.places[part.N]
	}
	return true
}
