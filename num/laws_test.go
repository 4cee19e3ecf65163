package num_test

import (
	"math"
	"testing"

	"prolix/api"
	"prolix/num"
)

// TestP1_4Parts: a is b times // and rem, and b times div and mod; mod has b's sign, rem a's.
func TestP1_4Parts(t *testing.T) {
	two := func(op string, a, b int64) int64 {
		n, e := num.Two(op, a, b)
		if e != api.OK {
			t.Errorf("%d %s %d: error %d", a, op, b, e)
		}
		return n
	}
	for _, a := range edges() {
		for _, b := range edges() {
			if b == 0 {
				continue
			}
			rem, mod := two("rem", a, b), two("mod", a, b)
			if rem != 0 && rem < 0 != (a < 0) {
				t.Errorf("%d rem %d: %d", a, b, rem)
			}
			if mod != 0 && mod < 0 != (b < 0) {
				t.Errorf("%d mod %d: %d", a, b, mod)
			}
			if a == math.MinInt64 && b == -1 { // the quotient is too great
				continue
			}
			if n := b*two("//", a, b) + rem; n != a {
				t.Errorf("%d // and rem %d: %d", a, b, n)
			}
			if n := b*two("div", a, b) + mod; n != a {
				t.Errorf("%d div and mod %d: %d", a, b, n)
			}
		}
	}
}

// TestP1_4Back: Parse of Print is the number, if it isn't negative.
func TestP1_4Back(t *testing.T) {
	for _, a := range edges() {
		n, e := num.Parse(num.Print(a), 10)
		if a >= 0 && (n != a || e != api.OK) || a < 0 && (n != 0 || e != api.ErrForm) {
			t.Errorf("%d: %d, error %d", a, n, e)
		}
	}
}
