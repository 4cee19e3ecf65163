package write

import "prolix/api"

// operation writes a compound term by the operator that has its name, if there is one.
func (w *writer) operation(t api.Term, most int) {
	pri := w.priority(t)
	switch {
	case pri == 0:
		w.compound(t)
	case pri > most:
		w.within("(", t, ")")
	case len(t.Args) == 2:
		w.infix(t)
	case w.isPrefix(t.S):
		w.atom(t.S)
		w.put(" ")
		w.operand(t.Args[0], pri-1)
	default:
		w.operand(t.Args[0], pri-1)
		w.put(" ")
		w.atom(t.S)
	}
}

func (w *writer) infix(t api.Term) {
	pri, left, right := w.table.Infix(t.S)
	w.operand(t.Args[0], side(t, t.Args[0], pri, left))
	if t.S == "," {
		w.put(",")
	} else {
		w.put(" ")
		w.atom(t.S)
		w.put(" ")
	}
	w.operand(t.Args[1], side(t, t.Args[1], pri, right))
}

// side is the most that an operand of an infix operator's term may have without ( ). What the operator allows there holds of its own terms alone; all others have less than it.
func side(t, operand api.Term, pri, allowed int) int {
	if operand.S == t.S && len(operand.Args) == len(t.Args) {
		return allowed
	}
	return pri - 1
}

func (w *writer) operand(t api.Term, most int) {
	if w.priority(t) > most || w.isWord(t) || t.Kind == api.Int && t.N < 0 {
		w.within("(", t, ")")
	} else {
		w.term(t, highest)
	}
}

// isWord says whether a term is an operator that stands for itself.
func (w *writer) isWord(t api.Term) bool { return t.Kind == api.Atom && w.table.Is(t.S) }

func (w *writer) isPrefix(name string) bool {
	pri, _ := w.table.Prefix(name)
	return pri > 0
}

// priority is that of the operator by which a term is written; 0: by none. A list is written as one, whatever operators there are.
func (w *writer) priority(t api.Term) int {
	pri := 0
	switch {
	case isPair(t):
	case len(t.Args) == 2:
		pri, _, _ = w.table.Infix(t.S)
	case len(t.Args) == 1 && w.isPrefix(t.S):
		pri, _ = w.table.Prefix(t.S)
	case len(t.Args) == 1:
		pri, _ = w.table.Postfix(t.S)
	}
	return pri
}
