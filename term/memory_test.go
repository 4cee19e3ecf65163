package term_test

import (
	"slices"
	"testing"
	"unsafe"

	"prolix/api"
	"prolix/term"
)

// roomy is a term like t, whose lists all have spare room with something in it.
func roomy(t api.Term) api.Term {
	l := make([]api.Term, 0, len(t.Args)+2)
	for _, a := range t.Args {
		l = append(l, roomy(a))
	}
	spare := l[len(l):cap(l)]
	for i := range spare {
		spare[i] = atom("spare")
	}
	t.Args = l
	return t
}

// withSpare tells a term with what stands in its lists' spare room.
func withSpare(t api.Term) string {
	text := show(api.Term{Kind: t.Kind, N: t.N, S: t.S}) + "<"
	for _, a := range t.Args {
		text += withSpare(a) + " "
	}
	for _, a := range t.Args[len(t.Args):cap(t.Args)] {
		text += "+" + show(a)
	}
	return text + ">"
}

// spoil overwrites all memory of a term's lists, their spare room too.
func spoil(t api.Term) {
	for i := range t.Args {
		spoil(t.Args[i])
	}
	l := t.Args[:cap(t.Args)]
	for i := range l {
		l[i] = comp("spoilt", whole(99))
	}
}

// sharing is a list with one list of Args thrice in it, once with less of it.
func sharing() api.Term {
	args := []api.Term{comp("name", variable(5)), variable(4), atom("[]")}
	return pair(comp("f", args...), pair(comp("f", args...), comp("g", args[:2]...)))
}

// apart spoils one of these terms after the other, but for the last: none that stands behind it may be turned by that.
func apart(t *testing.T, l ...api.Term) {
	for i := range len(l) - 1 {
		var before []string
		for _, x := range l {
			before = append(before, withSpare(x))
		}
		spoil(l[i])
		for j := i + 1; j < len(l); j++ {
			if withSpare(l[j]) != before[j] {
				t.Errorf("%d and %d share memory", i, j)
			}
		}
	}
}

func TestP3_2Untouched(t *testing.T) {
	for _, x := range small() {
		x, y := roomy(x), roomy(x)
		before := withSpare(x)
		term.Check(x)
		term.Size(x)
		term.Deep(x)
		term.Compare(x, y)
		if withSpare(x) != before || withSpare(y) != before {
			t.Errorf("%s is changed", show(x))
		}
	}
}

func TestP3_3New(t *testing.T) {
	for _, x := range append(small(), sharing()) {
		x := roomy(x)
		before := withSpare(x)
		vars, made := term.Vars(x), term.Number(x)
		if withSpare(x) != before {
			t.Errorf("%s is changed", show(x))
		}
		again, kept := slices.Clone(vars), numbered(made, term.Vars(made))
		spoil(x)
		if !slices.Equal(vars, again) || !same(made, kept) {
			t.Errorf("%v, %s: shared with the argument", vars, show(made))
		}
	}
	made := term.Number(sharing())
	apart(t, made.Args[0], made.Args[1].Args[0], made.Args[1].Args[1])
	made = term.Number(sharing())
	apart(t, made.Args[1].Args[1], made.Args[1].Args[0], made.Args[0])
	x := sharing()
	before := withSpare(x)
	spoil(term.Number(x))
	if withSpare(x) != before {
		t.Error("the argument is shared with the answer")
	}
}

func TestP3_4NewList(t *testing.T) {
	x, tail := roomy(sharing()), roomy(sharing())
	l := append(make([]api.Term, 0, 5), x, x, atom("a"))
	before := withSpare(api.Term{Args: l}) + withSpare(tail)
	made := term.List(l, tail)
	want := pair(sharing(), pair(sharing(), pair(atom("a"), sharing())))
	if withSpare(api.Term{Args: l})+withSpare(tail) != before {
		t.Error("an argument is changed")
	}
	spoil(api.Term{Args: l})
	spoil(tail)
	if !same(made, want) {
		t.Errorf("%s: shared with an argument", show(made))
	}
	rest := made.Args[1].Args[1].Args[1]
	apart(t, made.Args[0], made.Args[1].Args[0], rest.Args[0], rest.Args[1].Args[0], rest.Args[1].Args[1])

	x = roomy(sharing())
	before = withSpare(x)
	spoil(term.List(nil, x))
	spoil(term.List([]api.Term{x}, x))
	if withSpare(x) != before {
		t.Error("an argument is shared with the answer")
	}
}

func TestP3_4NewItems(t *testing.T) {
	x := roomy(sharing())
	before := withSpare(x)
	l, left := term.Items(x)
	if withSpare(x) != before {
		t.Error("the argument is changed")
	}
	spoil(x)
	f := comp("f", comp("name", variable(5)), variable(4), atom("[]"))
	if want := []api.Term{f, f}; !sameLists(l, want) || !same(left, comp("g", f.Args[:2]...)) {
		t.Errorf("%s and %s: shared with the argument", showList(l), show(left))
	}
	apart(t, l[0], l[1], left)
	apart(t, api.Term{Args: l}, left)

	x = roomy(comp("f", sharing()))
	before = withSpare(x)
	_, left = term.Items(x)
	spoil(left)
	if withSpare(x) != before {
		t.Error("the argument is shared with what is left")
	}
}

// TestP3_3Names: names are new memory too.
func TestP3_3Names(t *testing.T) {
	old := comp("some", atom("name"))
	l, left := term.Items(pair(old, old))
	for i, made := range []api.Term{term.Number(old), term.List([]api.Term{old}, old).Args[0], term.List([]api.Term{old}, old).Args[1], l[0], left} {
		if unsafe.StringData(made.S) == unsafe.StringData(old.S) || unsafe.StringData(made.Args[0].S) == unsafe.StringData(old.Args[0].S) {
			t.Errorf("%d: a name is the argument's own memory", i)
		}
	}
}
