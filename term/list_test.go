package term_test

import (
	"testing"

	"prolix/api"
	"prolix/term"
)

func TestP3_4List(t *testing.T) {
	a, b, c, end := atom("a"), atom("b"), comp("c", variable(3)), atom("[]")
	for _, x := range []struct {
		l    []api.Term
		tail api.Term
		want api.Term
	}{
		{nil, end, end},
		{[]api.Term{}, end, end},
		{nil, c, c},
		{nil, variable(3), variable(3)},
		{[]api.Term{a}, end, pair(a, end)},
		{[]api.Term{a, b}, end, pair(a, pair(b, end))},
		{[]api.Term{a, b, c}, end, pair(a, pair(b, pair(c, end)))},
		{[]api.Term{a, b}, variable(0), pair(a, pair(b, variable(0)))},
		{[]api.Term{a}, whole(7), pair(a, whole(7))},
		{[]api.Term{a}, pair(b, end), pair(a, pair(b, end))},
		{[]api.Term{pair(a, end), end}, end, pair(pair(a, end), pair(end, end))},
		{[]api.Term{c, c}, c, pair(c, pair(c, c))},
	} {
		if got := term.List(x.l, x.tail); !same(got, x.want) {
			t.Errorf("List of %s and %s: %s, want %s", showList(x.l), show(x.tail), show(got), show(x.want))
		}
	}
}

func TestP3_4Items(t *testing.T) {
	a, b, c, end := atom("a"), atom("b"), comp("c", variable(3)), atom("[]")
	for _, x := range []struct {
		t    api.Term
		want []api.Term
		left api.Term
	}{
		{end, nil, end},
		{a, nil, a},
		{variable(3), nil, variable(3)},
		{whole(-3), nil, whole(-3)},
		{c, nil, c},
		{atom("."), nil, atom(".")},
		{comp(".", a), nil, comp(".", a)},
		{comp(".", a, end, end), nil, comp(".", a, end, end)},
		{comp("..", a, end), nil, comp("..", a, end)},
		{comp("", a, end), nil, comp("", a, end)},
		{comp(",", a, end), nil, comp(",", a, end)},
		{pair(a, end), []api.Term{a}, end},
		{pair(a, pair(b, end)), []api.Term{a, b}, end},
		{pair(a, pair(b, pair(c, end))), []api.Term{a, b, c}, end},
		{pair(a, pair(b, variable(4))), []api.Term{a, b}, variable(4)},
		{pair(a, pair(b, c)), []api.Term{a, b}, c},
		{pair(a, atom(".")), []api.Term{a}, atom(".")},
		{pair(a, comp(".", b)), []api.Term{a}, comp(".", b)},
		{pair(a, comp(".", b, end, end)), []api.Term{a}, comp(".", b, end, end)},
		{pair(a, comp("f", b, end)), []api.Term{a}, comp("f", b, end)},
		{pair(pair(a, end), pair(pair(b, c), end)), []api.Term{pair(a, end), pair(b, c)}, end},
		{pair(end, end), []api.Term{end}, end},
	} {
		l, left := term.Items(x.t)
		if !sameLists(l, x.want) || !same(left, x.left) {
			t.Errorf("Items of %s: %s and %s, want %s and %s", show(x.t), showList(l), show(left), showList(x.want), show(x.left))
		}
	}
}

// TestP3_4Long: lists as long as they may be, and longer.
func TestP3_4Long(t *testing.T) {
	for _, n := range []int{api.MaxDeep - 1, api.MaxDeep, 200000} {
		items := make([]api.Term, n)
		for i := range items {
			items[i] = comp("f", whole(int64(i)))
		}
		list := term.List(items, comp("g", atom("a")))
		if size, deep := term.Size(list), term.Deep(list); size != 3*n+2 || deep != n+2 {
			t.Errorf("%d items: %d parts, %d deep", n, size, deep)
		}
		if l, left := term.Items(list); !sameLists(l, items) || !same(left, comp("g", atom("a"))) {
			t.Errorf("%d items: %d, and %s", n, len(l), show(left))
		}
	}
	last := chain(api.MaxDeep-1, atom("a"))
	if l, left := term.Items(term.List([]api.Term{last}, last)); !sameLists(l, []api.Term{last}) || !same(left, last) {
		t.Error("a deep one is another one")
	}
}
