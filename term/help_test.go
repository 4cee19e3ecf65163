package term_test

import (
	"strconv"
	"strings"

	"prolix/api"
)

func variable(n int64) api.Term { return api.Term{Kind: api.Var, N: n} }
func whole(n int64) api.Term    { return api.Term{Kind: api.Int, N: n} }
func atom(s string) api.Term    { return api.Term{Kind: api.Atom, S: s} }

func comp(s string, args ...api.Term) api.Term {
	return api.Term{Kind: api.Comp, S: s, Args: args}
}

func pair(item, tail api.Term) api.Term { return comp(".", item, tail) }

// chain is a term so deep: f of f of .. of the last one.
func chain(deep int, last api.Term) api.Term {
	for range deep - 1 {
		last = comp("f", last)
	}
	return last
}

// sized is a term of so many parts, the last of which is the last one; none has too many Args.
func sized(parts int, last api.Term) api.Term {
	if parts == 1 {
		return last
	}
	args := make([]api.Term, min(parts-1, api.MaxArity))
	for i := range args {
		args[i] = atom("a")
	}
	args[len(args)-1] = sized(parts-len(args), last)
	return comp("f", args...)
}

// repeated is so many times a term.
func repeated(n int, t api.Term) []api.Term {
	l := make([]api.Term, n)
	for i := range l {
		l[i] = t
	}
	return l
}

// same says whether two terms are; nil and empty lists are one.
func same(a, b api.Term) bool {
	return a.Kind == b.Kind && a.N == b.N && a.S == b.S && sameLists(a.Args, b.Args)
}

func sameLists(a, b []api.Term) bool {
	if len(a) != len(b) {
		return false
	}
	for i := range a {
		if !same(a[i], b[i]) {
			return false
		}
	}
	return true
}

// show is a term for a test's eyes: what lies too deep for them is left out.
func show(t api.Term) string { return showTo(t, 40) }

func showTo(t api.Term, deep int) string {
	switch {
	case deep == 0:
		return ".."
	case t.Kind == api.Var:
		return "_" + strconv.FormatInt(t.N, 10)
	case t.Kind == api.Int:
		return strconv.FormatInt(t.N, 10)
	case t.Kind == api.Atom:
		return strconv.Quote(t.S)
	}
	var texts []string
	for _, a := range t.Args {
		texts = append(texts, showTo(a, deep-1))
	}
	return strconv.Quote(t.S) + "(" + strings.Join(texts, " ") + ")"
}

func showList(l []api.Term) string { return show(api.Term{Args: l}) }

// leaves are terms without Args.
func leaves() []api.Term {
	return []api.Term{variable(0), variable(1), variable(7), whole(-1), whole(0), whole(7), atom(""), atom("[]"), atom("a"), atom("f")}
}

// bushes are terms of a few parts: each name, with each few of these as its Args.
func bushes(names []string, args []api.Term) []api.Term {
	var l []api.Term
	for _, name := range names {
		for _, a := range args {
			l = append(l, comp(name, a))
			for _, b := range args {
				l = append(l, comp(name, a, b))
			}
		}
	}
	return l
}

// small are all leaves, some bushes, and bushes of these.
func small() []api.Term {
	l := leaves()
	l = append(l, bushes([]string{"f", "."}, leaves())...)
	l = append(l, bushes([]string{"g", "."}, []api.Term{variable(1), atom("[]"), comp("f", variable(7)), pair(atom("a"), atom("[]")), pair(variable(1), variable(0))})...)
	return append(l, comp("f", repeated(3, variable(3))...), comp("", comp("", atom(""))))
}
