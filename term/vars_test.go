package term_test

import (
	"math"
	"slices"
	"testing"

	"prolix/api"
	"prolix/term"
)

func TestP3_3Told(t *testing.T) {
	v, a := variable, atom("a")
	for _, x := range []struct {
		t    api.Term
		vars []int64
		want api.Term
	}{
		{comp("f", v(7), comp("g", v(2), v(7))), []int64{7, 2}, comp("f", v(0), comp("g", v(1), v(0)))},
		{v(0), []int64{0}, v(0)},
		{v(5), []int64{5}, v(0)},
		{v(math.MaxInt64), []int64{math.MaxInt64}, v(0)},
		{a, nil, a},
		{whole(5), nil, whole(5)},
		{comp("f", whole(5), a), nil, comp("f", whole(5), a)},
		{comp("f", v(1), v(0)), []int64{1, 0}, comp("f", v(0), v(1))},
		{comp("f", v(1), v(0), v(1), v(0)), []int64{1, 0}, comp("f", v(0), v(1), v(0), v(1))},
		{comp("f", v(2), v(1), v(0)), []int64{2, 1, 0}, comp("f", v(0), v(1), v(2))},
		{comp("f", comp("g", comp("h", v(9))), v(3)), []int64{9, 3}, comp("f", comp("g", comp("h", v(0))), v(1))},
		{comp("f", v(3), comp("g", comp("h", v(9)))), []int64{3, 9}, comp("f", v(0), comp("g", comp("h", v(1))))},
		{comp("f", whole(3), v(3)), []int64{3}, comp("f", whole(3), v(0))},
		{pair(v(4), pair(v(2), v(4))), []int64{4, 2}, pair(v(0), pair(v(1), v(0)))},
		{comp("f", repeated(api.MaxArity, v(8))...), []int64{8}, comp("f", repeated(api.MaxArity, v(0))...)},
		{chain(api.MaxDeep, v(8)), []int64{8}, chain(api.MaxDeep, v(0))},
		{chain(100000, v(8)), []int64{8}, chain(100000, v(0))},
		{sized(api.MaxSize, v(8)), []int64{8}, sized(api.MaxSize, v(0))},
	} {
		if got := term.Vars(x.t); !slices.Equal(got, x.vars) {
			t.Errorf("Vars: %v, want %v", got, x.vars)
		}
		if got := term.Number(x.t); !same(got, x.want) {
			t.Errorf("Number: %.100s, want %.100s", show(got), show(x.want))
		}
	}
}

// TestP3_3Many: as many variables as there may be, backwards, each twice.
func TestP3_3Many(t *testing.T) {
	const many = api.MaxArity * 39
	row := func(number func(i int64) int64) api.Term {
		var rows []api.Term
		for i := int64(0); i < many; i += api.MaxArity {
			var l []api.Term
			for j := range int64(api.MaxArity) {
				l = append(l, variable(number(i+j)))
			}
			rows = append(rows, comp("g", l...))
		}
		return comp("f", comp("f", rows...), comp("f", rows...))
	}
	x, want := row(func(i int64) int64 { return 3 * (many - i) }), row(func(i int64) int64 { return i })
	if e := term.Check(x); e != api.OK {
		t.Fatalf("error %d", e)
	}
	l := term.Vars(x)
	if len(l) != many {
		t.Fatalf("%d variables", len(l))
	}
	for i, n := range l {
		if n != int64(3*(many-i)) {
			t.Fatalf("place %d: %d", i, n)
		}
	}
	if got := term.Number(x); !same(got, want) {
		t.Error("numbered otherwise")
	}
}

// met are a term's variables, as they come.
func met(t api.Term, l []int64) []int64 {
	if t.Kind == api.Var && !slices.Contains(l, t.N) {
		l = append(l, t.N)
	}
	for _, a := range t.Args {
		l = met(a, l)
	}
	return l
}

// numbered is a term whose variables' numbers are their places in a list.
func numbered(t api.Term, l []int64) api.Term {
	if t.Kind == api.Var {
		return variable(int64(slices.Index(l, t.N)))
	}
	var args []api.Term
	for _, a := range t.Args {
		args = append(args, numbered(a, l))
	}
	return api.Term{Kind: t.Kind, N: t.N, S: t.S, Args: args}
}

func TestP3_3Small(t *testing.T) {
	l := small()
	for _, x := range append(l, bushes([]string{"h"}, l[:60])...) {
		want := met(x, nil)
		if got := term.Vars(x); !slices.Equal(got, want) {
			t.Errorf("Vars of %s: %v, want %v", show(x), got, want)
		}
		if got, want := term.Number(x), numbered(x, want); !same(got, want) {
			t.Errorf("Number of %s: %s, want %s", show(x), show(got), show(want))
		}
	}
}
