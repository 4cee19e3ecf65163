package read

import (
	"strings"

	"prolix/api"
)

func whole(n int64) api.Term { return api.Term{Kind: api.Int, N: n} }

// atom and comp clone their names: an answer shares no memory with a token.
func atom(name string) api.Term {
	return api.Term{Kind: api.Atom, S: strings.Clone(name)}
}

func comp(name string, args ...api.Term) api.Term {
	return api.Term{Kind: api.Comp, S: strings.Clone(name), Args: args}
}

// list is made of the terms themselves: layer 3's List would copy them, and so what stands within many lists many times.
func list(l []api.Term, tail api.Term) api.Term {
	for i := len(l) - 1; i >= 0; i-- {
		tail = comp(".", l[i], tail)
	}
	return tail
}

// bytes are a text's numbers. So many are a list that is too deep, whatever stands behind them: the others aren't looked at.
func bytes(s string) []api.Term {
	var l []api.Term
	for i := range min(len(s), api.MaxDeep) {
		l = append(l, whole(int64(s[i])))
	}
	return l
}
