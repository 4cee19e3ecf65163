package write

import (
	"prolix/api"
	"prolix/name"
	"prolix/num"
	"prolix/ops"
)

// The most that a priority may be.
const (
	highest  = 1200 // of a whole term, and of what stands in ( ) or { }
	argument = 999
)

// writer writes a term in one way. Its calls are nested as deep as the term: Check has seen to it that they may be.
type writer struct {
	way   int
	table *ops.Table
	put   func(s string) (int, error) // a strings.Builder's: it has no errors
}

// term writes a term in its place of at most a priority.
func (w *writer) term(t api.Term, most int) {
	switch {
	case t.Kind == api.Var:
		w.put("_" + num.Print(t.N))
	case t.Kind == api.Int:
		w.put(num.Print(t.N))
	case t.Kind == api.Atom:
		w.atom(t.S)
	case isPair(t):
		w.list(t)
	case w.way == Canonical:
		w.compound(t)
	case t.S == "{}" && len(t.Args) == 1:
		w.within("{", t.Args[0], "}")
	default:
		w.operation(t, most)
	}
}

func (w *writer) atom(s string) {
	if w.way != Bare {
		s = name.Put(s)
	}
	w.put(s)
}

// within writes a term in brackets, where any priority may be.
func (w *writer) within(opening string, t api.Term, closing string) {
	w.put(opening)
	w.term(t, highest)
	w.put(closing)
}

func (w *writer) compound(t api.Term) {
	w.atom(t.S)
	before := "("
	for _, a := range t.Args {
		w.put(before)
		w.term(a, argument)
		before = ","
	}
	w.put(")")
}

// list goes along the pairs itself: layer 3's Items copies them, and so what stands within many lists many times.
func (w *writer) list(t api.Term) {
	before := "["
	for isPair(t) {
		w.put(before)
		w.term(t.Args[0], argument)
		before, t = ",", t.Args[1]
	}
	if t.Kind != api.Atom || t.S != "[]" {
		w.put("|")
		w.term(t, argument)
	}
	w.put("]")
}

func isPair(t api.Term) bool { return t.S == "." && len(t.Args) == 2 }
