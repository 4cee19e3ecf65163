package store_test

import (
	"math/rand"
	"testing"

	"prolix/api"
)

// calls are some of each sort, for a store of few cells.
func calls() []func(b *both) {
	x, y, a := variable(0), variable(1), atom("a")
	l := []func(b *both){
		func(b *both) { b.fresh() },
		func(b *both) { b.put(a, nil) },
		func(b *both) { b.put(x, b.vars) },
		func(b *both) { b.put(comp("f", x, x), nil) },
		func(b *both) { b.put(comp("f", y, x), b.vars) },
		func(b *both) { b.put(comp("g", comp("h", whole(7)), x), b.vars) },
	}
	for _, p := range [][2]int{{0, 0}, {0, 1}, {1, 0}, {1, 2}, {2, 0}, {0, 4}} {
		l = append(l, func(b *both) { b.bind(p[0], p[1]) })
	}
	for _, n := range []int{0, 1} {
		l = append(l, func(b *both) { b.undo(n) })
	}
	for _, n := range []int{0, 1, 2, 3, 4} {
		l = append(l, func(b *both) { b.cut(n) })
	}
	return l
}

// TestP8_4Short holds stores against models behind each short row of calls.
func TestP8_4Short(t *testing.T) {
	l := calls()
	var rows func(row []func(b *both), left int)
	rows = func(row []func(b *both), left int) {
		b := newBoth(t, 6)
		for _, call := range row {
			call(b)
		}
		b.all()
		if left > 0 {
			for _, call := range l {
				rows(append(row[:len(row):len(row)], call), left-1)
			}
		}
	}
	rows(nil, 4)
}

// grown is a term by chance, of some variables.
func grown(r *rand.Rand, deep int) api.Term {
	switch n := r.Intn(10); {
	case n < 3:
		return variable(int64(r.Intn(8)))
	case n < 4:
		return whole(r.Int63n(5) - 2)
	case n < 5 || deep == 0:
		return atom([]string{"", "a", "f", "[]"}[r.Intn(4)])
	}
	var args []api.Term
	for range 1 + r.Intn(3) {
		args = append(args, grown(r, deep-1))
	}
	return comp([]string{"f", "g", "."}[r.Intn(3)], args...)
}

// TestP8_4Long holds stores against models through long rows of calls by chance; what Put is told are cells of long ago, too.
func TestP8_4Long(t *testing.T) {
	for seed := range int64(60) {
		r := rand.New(rand.NewSource(seed))
		b := newBoth(t, 1+r.Intn(60))
		any := func() int { return r.Intn(len(b.m.cells)+3) - 1 }
		for range 400 {
			switch r.Intn(12) {
			case 0:
				b.fresh()
			case 1, 2:
				b.put(grown(r, 3), b.vars)
			case 3:
				b.put(grown(r, 3), nil)
			case 4:
				delete(b.vars, int64(r.Intn(8)))
			case 5:
				b.undo(r.Intn(len(b.m.binds)+3) - 1)
			case 6:
				b.cut(any())
			default:
				b.bind(any(), any())
			}
			b.counts()
			if r.Intn(10) == 0 {
				b.all()
			}
			b.called = b.called[max(0, len(b.called)-20):]
		}
		b.undo(-1)
		b.cut(0)
		b.all()
	}
}
