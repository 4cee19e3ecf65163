package write_test

import (
	"math/rand"
	"slices"
	"strconv"
	"testing"

	"prolix/api"
	"prolix/name"
	"prolix/ops"
	"prolix/term"
	"prolix/write"
)

// model writes terms as the chapter's sentences tell it one by one, by a list of operators that is looked through.
type model struct {
	way  int
	defs []ops.Def
}

func (m model) find(name string, types ...int) (ops.Def, bool) {
	for _, d := range m.defs {
		if d.Name == name && slices.Contains(types, d.Type) {
			return d, true
		}
	}
	return ops.Def{}, false
}

func (m model) atom(s string) string {
	if m.way == write.Bare {
		return s
	}
	return name.Put(s)
}

// operator is the one of an operator's term.
func (m model) operator(t api.Term) (ops.Def, bool) {
	switch {
	case t.Kind != api.Comp || m.way == write.Canonical:
		return ops.Def{}, false
	case len(t.Args) == 2 && t.S != ".":
		return m.find(t.S, api.XFX, api.XFY, api.YFX)
	case len(t.Args) != 1:
		return ops.Def{}, false
	}
	if d, ok := m.find(t.S, api.FX, api.FY); ok {
		return d, true
	}
	return m.find(t.S, api.XF, api.YF)
}

func (m model) text(t api.Term, most int) string {
	switch {
	case t.Kind == api.Var:
		return "_" + strconv.FormatInt(t.N, 10)
	case t.Kind == api.Int:
		return strconv.FormatInt(t.N, 10)
	case t.Kind == api.Atom:
		return m.atom(t.S)
	case t.S == "." && len(t.Args) == 2:
		return m.list(t)
	case m.way != write.Canonical && t.S == "{}" && len(t.Args) == 1:
		return "{" + m.text(t.Args[0], 1200) + "}"
	}
	d, ok := m.operator(t)
	if !ok {
		return m.atom(t.S) + "(" + m.row(t.Args) + ")"
	}
	text := m.operation(t, d)
	if d.Pri > most {
		return "(" + text + ")"
	}
	return text
}

func (m model) row(l []api.Term) string {
	text := ""
	for i, t := range l {
		if i > 0 {
			text += ","
		}
		text += m.text(t, 999)
	}
	return text
}

func (m model) list(t api.Term) string {
	items, left := term.Items(t)
	text := "[" + m.row(items)
	if term.Compare(left, atom("[]")) != 0 {
		text += "|" + m.text(left, 999)
	}
	return text + "]"
}

func (m model) operation(t api.Term, d ops.Def) string {
	switch d.Type {
	case api.FX, api.FY:
		return m.atom(t.S) + " " + m.operand(t.Args[0], d, 0)
	case api.XF, api.YF:
		return m.operand(t.Args[0], d, 0) + " " + m.atom(t.S)
	}
	between := " " + m.atom(t.S) + " "
	if t.S == "," {
		between = ","
	}
	return m.operand(t.Args[0], d, api.YFX) + between + m.operand(t.Args[1], d, api.XFY)
}

// operand is what stands on a side of an operator, on which one of that type lets its own terms stand.
func (m model) operand(t api.Term, d ops.Def, typ int) string {
	isOperator := slices.ContainsFunc(m.defs, func(d ops.Def) bool { return d.Name == t.S })
	own, ok := m.operator(t)
	switch {
	case t.Kind == api.Atom && isOperator, t.Kind == api.Int && t.N < 0, ok && own.Pri >= d.Pri && !(own == d && d.Type == typ):
		return "(" + m.text(t, 1200) + ")"
	}
	return m.text(t, 1200)
}

// holdModel holds all three texts of a term against the model's.
func holdModel(t *testing.T, x api.Term, o *ops.Table) {
	t.Helper()
	defs := o.List()
	for way := write.Bare; way <= write.Canonical; way++ {
		hold(t, x, way, o, model{way, defs}.text(x, 1200))
	}
}

// names are those that the small terms have.
func names() []string {
	return []string{"f", "xfx", "xfy", "yfx", "less", "fx", "fy", "yf", "both", "ends", "-", ",", ".", "{}", "[]", ":-", "one", "first"}
}

// leaves are terms without Args.
func leaves() []api.Term {
	return []api.Term{variable(0), variable(3), whole(1), whole(-1), atom("a"), atom("-"), atom("yf"), atom("both"), atom("[]"), atom("B c"), atom(",")}
}

// bushes gives terms of each name: with one of some, and with one of others on either side of it.
func bushes(some, others []api.Term, give func(x api.Term)) {
	for _, s := range names() {
		for _, a := range some {
			give(comp(s, a))
			for _, b := range others {
				give(comp(s, a, b))
				give(comp(s, b, a))
			}
		}
	}
}

// small gives leaves, bushes of them, and bushes of a few of these.
func small(give func(x api.Term)) {
	few := []api.Term{atom("a"), whole(-1), atom("-")}
	var twigs, least []api.Term
	bushes(few, few, func(x api.Term) { twigs = append(twigs, x) })
	for _, s := range names() {
		least = append(least, comp(s, atom("a")), comp(s, atom("a"), atom("b")))
	}
	for _, x := range leaves() {
		give(x)
	}
	bushes(leaves(), leaves(), give)
	bushes(twigs, few, give)
	bushes(least, least, give)
}

func TestP7_1Small(t *testing.T) {
	o := table()
	small(func(x api.Term) {
		if !t.Failed() {
			holdModel(t, x, o)
		}
	})
}

// grower makes terms and tables by chance, the same ones each time.
type grower struct{ *rand.Rand }

func newGrower(seed int64) grower { return grower{rand.New(rand.NewSource(seed))} }

func (g grower) name() string {
	l := append(names(), "a", "b c", "D", "+", ";", "", "it's", "|", "\n", "_", "!", "0'", "/*", "%", "é", "0", "\\", "mod")
	return l[g.Intn(len(l))]
}

// term is one of at most so deep.
func (g grower) term(deep int) api.Term {
	if deep <= 1 || g.Intn(5) == 0 {
		switch g.Intn(4) {
		case 0:
			return variable(int64(g.Intn(4)))
		case 1:
			return whole(int64(g.Intn(5) - 2))
		}
		return atom(g.name())
	}
	var args []api.Term
	for range []int{1, 1, 1, 2, 2, 2, 2, 3}[g.Intn(8)] {
		args = append(args, g.term(deep-1))
	}
	return comp(g.name(), args...)
}

// table has operators of priorities that are often the same.
func (g grower) table() *ops.Table {
	o := ops.New()
	if g.Intn(3) == 0 {
		o = none()
	}
	for range g.Intn(60) {
		pri := []int{0, 1, 2, 200, 500, 999, 1000, 1200}[g.Intn(8)]
		o.Op(pri, api.XFX+g.Intn(api.YF), g.name())
	}
	return o
}

func TestP7_1Grown(t *testing.T) {
	g := newGrower(71)
	for range 300 {
		o := g.table()
		for range 60 {
			holdModel(t, g.term(1+g.Intn(7)), o)
		}
	}
}
