package term_test

import (
	"slices"
	"testing"

	"prolix/api"
	"prolix/term"
)

// TestP3_5Order: just the same terms stand with one another, and a third one keeps to what stands ahead of what.
func TestP3_5Order(t *testing.T) {
	l := small()
	signs := make([][]int, len(l))
	for i, a := range l {
		for _, b := range l {
			sign := term.Compare(a, b)
			signs[i] = append(signs[i], sign)
			if sign < -1 || sign > 1 || (sign == 0) != same(a, b) || sign != -term.Compare(b, a) {
				t.Errorf("%s and %s: %d", show(a), show(b), sign)
			}
		}
	}
	for i := range l {
		for j := range l {
			if signs[i][j] > 0 {
				continue
			}
			for k := range l {
				if signs[j][k] <= 0 && signs[i][k] > max(signs[i][j], signs[j][k]) {
					t.Fatalf("%s, %s, %s: no order", show(l[i]), show(l[j]), show(l[k]))
				}
			}
		}
	}
}

// TestP3_5Number: Number twice is Number once, whose variables are 0, 1, 2 and so on; nothing else is turned.
func TestP3_5Number(t *testing.T) {
	for _, x := range small() {
		once := term.Number(x)
		if twice := term.Number(once); !same(twice, once) {
			t.Errorf("%s: %s, then %s", show(x), show(once), show(twice))
		}
		vars := term.Vars(x)
		for i, n := range term.Vars(once) {
			if n != int64(i) {
				t.Errorf("%s: variable %d at %d", show(once), n, i)
			}
		}
		if len(term.Vars(once)) != len(vars) || term.Size(once) != term.Size(x) || term.Deep(once) != term.Deep(x) {
			t.Errorf("%s: %s", show(x), show(once))
		}
	}
}

// TestP3_5Items: Items of List are the same, if the tail is no such Comp; else its items stand behind them.
func TestP3_5Items(t *testing.T) {
	all := small()
	for i := range all {
		items := all[i:min(i+i%5, len(all))]
		for _, tail := range all {
			l, left := term.Items(term.List(items, tail))
			more, rest := term.Items(tail)
			if isPair := tail.Kind == api.Comp && tail.S == "." && len(tail.Args) == 2; !isPair && (len(more) != 0 || !same(rest, tail)) {
				t.Errorf("Items of %s: %s and %s", show(tail), showList(more), show(rest))
			}
			if !sameLists(l, slices.Concat(items, more)) || !same(left, rest) {
				t.Errorf("Items of List of %s and %s: %s and %s", showList(items), show(tail), showList(l), show(left))
			}
		}
	}
}
