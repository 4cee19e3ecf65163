package num_test

import (
	"math"
	"math/big"
	"testing"

	"prolix/api"
	"prolix/num"
)

// ones are all operators of one number that the document names.
var ones = []string{"-", "+", "abs", "sign", "\\"}

func wantOne(op string, a int64) (int64, api.Errno) {
	x := big.NewInt(a)
	switch op {
	case "-":
		return fits(x.Neg(x))
	case "abs":
		return fits(x.Abs(x))
	case "sign":
		return int64(x.Sign()), api.OK
	case "\\":
		return fits(x.Not(x))
	}
	return a, api.OK
}

func TestP1_2Edges(t *testing.T) {
	for _, op := range ones {
		for _, a := range edges() {
			n, e := num.One(op, a)
			if w, we := wantOne(op, a); n != w || e != we {
				t.Errorf("%s %d: %d, error %d; want %d, error %d", op, a, n, e, w, we)
			}
		}
	}
}

func TestP1_2Told(t *testing.T) {
	const least, most = math.MinInt64, math.MaxInt64
	for _, x := range []struct {
		op   string
		a, n int64
		e    api.Errno
	}{
		{"-", 0, 0, api.OK},
		{"-", 5, -5, api.OK},
		{"-", most, -most, api.OK},
		{"-", least, 0, api.ErrOver},
		{"+", least, least, api.OK},
		{"+", 5, 5, api.OK},
		{"abs", -5, 5, api.OK},
		{"abs", 5, 5, api.OK},
		{"abs", least + 1, most, api.OK},
		{"abs", least, 0, api.ErrOver},
		{"sign", least, -1, api.OK},
		{"sign", 0, 0, api.OK},
		{"sign", most, 1, api.OK},
		{"\\", 0, -1, api.OK},
		{"\\", least, most, api.OK},
		{"\\", 5, -6, api.OK},
	} {
		if n, e := num.One(x.op, x.a); n != x.n || e != x.e {
			t.Errorf("%s %d: %d, error %d; want %d, error %d", x.op, x.a, n, e, x.n, x.e)
		}
	}
}

func TestP1_2None(t *testing.T) {
	for _, op := range []string{"", "*", "//", "mod", "min", "xor", "^", "Abs", "abs ", "signum", "--", "/\\", "\\\\", "foo", "\x00"} {
		if n, e := num.One(op, math.MinInt64); n != 0 || e != api.ErrNone {
			t.Errorf("%q: %d, error %d", op, n, e)
		}
	}
}
