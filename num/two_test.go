package num_test

import (
	"math"
	"math/big"
	"testing"

	"prolix/api"
	"prolix/num"
)

// twos are all operators of two numbers that the document names.
var twos = []string{"+", "-", "*", "//", "rem", "div", "mod", "min", "max", "/\\", "\\/", "xor", "<<", ">>", "**", "^"}

// edges are numbers near to which an operator may turn.
func edges() []int64 {
	var l []int64
	for _, n := range []int64{0, 7, 10, 31, 63, 1 << 31, 1 << 32, 3037000499, 1 << 53, 1 << 61, 1 << 62, math.MaxInt64, 2097151, 55108, 6208} {
		for _, d := range []int64{-2, -1, 0, 1, 2} {
			l = append(l, n+d, -(n + d)) // beyond the greatest one they go round to the least ones
		}
	}
	return append(l, 5, -5, 6, -6, 12, -12, 100, -100)
}

// wantTwo is what an operator comes to, by numbers of any length.
func wantTwo(op string, a, b int64) (int64, api.Errno) {
	x, y, n := big.NewInt(a), big.NewInt(b), new(big.Int)
	if b == 0 && (op == "//" || op == "rem" || op == "div" || op == "mod") {
		return 0, api.ErrZero
	}
	switch op {
	case "+":
		n.Add(x, y)
	case "-":
		n.Sub(x, y)
	case "*":
		n.Mul(x, y)
	case "//":
		n.Quo(x, y)
	case "rem":
		n.Rem(x, y)
	case "div", "mod":
		rest := new(big.Int)
		n.QuoRem(x, y, rest)
		if rest.Sign() != 0 && rest.Sign() != y.Sign() {
			n.Sub(n, big.NewInt(1))
			rest.Add(rest, y)
		}
		if op == "mod" {
			n = rest
		}
	case "min", "max":
		n.Set(x)
		if x.Cmp(y) > 0 == (op == "min") {
			n.Set(y)
		}
	case "/\\":
		n.And(x, y)
	case "\\/":
		n.Or(x, y)
	case "xor":
		n.Xor(x, y)
	case "<<":
		if b < 0 || b > 63 {
			return 0, api.ErrOver
		}
		n.Mul(x, new(big.Int).Exp(big.NewInt(2), y, nil))
	case ">>":
		if b < 0 {
			return 0, api.ErrOver
		}
		n.Rsh(x, uint(min(b, 63)))
	case "**", "^":
		return wantPower(a, b)
	}
	return fits(n)
}

func wantPower(a, b int64) (int64, api.Errno) {
	even := b%2 == 0
	switch {
	case a == 1, a == -1 && even:
		return 1, api.OK
	case a == -1:
		return -1, api.OK
	case a == 0 && b < 0:
		return 0, api.ErrZero
	case b < 0:
		return 0, api.ErrOver
	case a == 0 && b > 0:
		return 0, api.OK
	case b > 64:
		return 0, api.ErrOver
	}
	return fits(new(big.Int).Exp(big.NewInt(a), big.NewInt(b), nil))
}

func fits(n *big.Int) (int64, api.Errno) {
	if !n.IsInt64() {
		return 0, api.ErrOver
	}
	return n.Int64(), api.OK
}

// TestP1_1Edges holds each operator against numbers of any length, at each pair of edges.
func TestP1_1Edges(t *testing.T) {
	l := edges()
	for _, op := range twos {
		wrong := 0
		for _, a := range l {
			for _, b := range l {
				n, e := num.Two(op, a, b)
				if w, we := wantTwo(op, a, b); (n != w || e != we) && wrong < 5 {
					wrong++
					t.Errorf("%d %s %d: %d, error %d; want %d, error %d", a, op, b, n, e, w, we)
				}
			}
		}
	}
}

// TestP1_1Small holds each operator against numbers of any length, at all small pairs.
func TestP1_1Small(t *testing.T) {
	for _, op := range twos {
		for a := int64(-20); a <= 20; a++ {
			for b := int64(-20); b <= 66; b++ {
				n, e := num.Two(op, a, b)
				if w, we := wantTwo(op, a, b); n != w || e != we {
					t.Fatalf("%d %s %d: %d, error %d; want %d, error %d", a, op, b, n, e, w, we)
				}
			}
		}
	}
}

// TestP1_1Told are answers written out by hand.
func TestP1_1Told(t *testing.T) {
	const least, most = math.MinInt64, math.MaxInt64
	for _, x := range []struct {
		op      string
		a, b, n int64
		e       api.Errno
	}{
		{"+", most, 1, 0, api.ErrOver},
		{"+", most, 0, most, api.OK},
		{"+", least, most, -1, api.OK},
		{"+", least, least, 0, api.ErrOver},
		{"-", most, -1, 0, api.ErrOver},
		{"-", least, least, 0, api.OK},
		{"*", least, 1, least, api.OK},
		{"*", 1, least, least, api.OK},
		{"*", -1, least, 0, api.ErrOver},
		{"*", 3037000500, 3037000500, 0, api.ErrOver},
		{"*", 3037000499, 3037000499, 9223372030926249001, api.OK},
		{"*", 0, least, 0, api.OK},
		{"//", -7, 2, -3, api.OK},
		{"//", least, -1, 0, api.ErrOver},
		{"//", least, 1, least, api.OK},
		{"//", 0, 0, 0, api.ErrZero},
		{"div", -7, 2, -4, api.OK},
		{"div", -7, -2, 3, api.OK},
		{"div", least, -1, 0, api.ErrOver},
		{"div", least, 0, 0, api.ErrZero},
		{"div", 1, least, -1, api.OK},
		{"mod", -7, 2, 1, api.OK},
		{"mod", 1, least, least + 1, api.OK},
		{"mod", least, -1, 0, api.OK},
		{"rem", -7, 2, -1, api.OK},
		{"rem", 7, -2, 1, api.OK},
		{"rem", 7, 0, 0, api.ErrZero},
		{"min", least, most, least, api.OK},
		{"max", least, most, most, api.OK},
		{"/\\", -1, 6, 6, api.OK},
		{"\\/", -8, 3, -5, api.OK},
		{"xor", -1, 5, -6, api.OK},
		{"<<", 1, 63, 0, api.ErrOver},
		{"<<", -1, 63, least, api.OK},
		{"<<", 0, 63, 0, api.OK},
		{"<<", 0, 64, 0, api.ErrOver},
		{"<<", 1 << 61, 1, 1 << 62, api.OK},
		{"<<", 1 << 62, 1, 0, api.ErrOver},
		{"<<", 0, -1, 0, api.ErrOver},
		{"<<", 1, least, 0, api.ErrOver},
		{"<<", 1, most, 0, api.ErrOver},
		{">>", -5, 1, -3, api.OK},
		{">>", least, 63, -1, api.OK},
		{">>", -1, most, -1, api.OK},
		{">>", most, 64, 0, api.OK},
		{">>", 5, -1, 0, api.ErrOver},
		{">>", 0, least, 0, api.ErrOver},
		{"**", -2, 63, least, api.OK},
		{"**", -2, 64, 0, api.ErrOver},
		{"**", 2, 62, 1 << 62, api.OK},
		{"**", 2, 63, 0, api.ErrOver},
		{"**", 2, most, 0, api.ErrOver},
		{"^", 3037000500, 2, 0, api.ErrOver},
		{"^", least, 1, least, api.OK},
		{"^", least, 0, 1, api.OK},
		{"^", 0, 0, 1, api.OK},
		{"^", 0, most, 0, api.OK},
		{"^", 0, least, 0, api.ErrZero},
		{"^", 1, least, 1, api.OK},
		{"^", -1, least, 1, api.OK},
		{"^", -1, -1, -1, api.OK},
		{"^", -1, most, -1, api.OK},
		{"^", -2, -1, 0, api.ErrOver},
		{"^", least, least, 0, api.ErrOver},
	} {
		if n, e := num.Two(x.op, x.a, x.b); n != x.n || e != x.e {
			t.Errorf("%d %s %d: %d, error %d; want %d, error %d", x.a, x.op, x.b, n, e, x.n, x.e)
		}
	}
}

// TestP1_1None asks what is no operator of two numbers; that is told ahead of all else.
func TestP1_1None(t *testing.T) {
	for _, op := range []string{"", " ", "foo", "/", "\\", "abs", "sign", "MOD", "Mod", "mod ", " mod", "+ ", "//\x00", "***", "<", ">>>", "=:=", "is", "\xff", "rdiv", "gcd"} {
		for _, b := range []int64{0, 1, -1, math.MinInt64} {
			if n, e := num.Two(op, 1, b); n != 0 || e != api.ErrNone {
				t.Errorf("%q of 1 and %d: %d, error %d", op, b, n, e)
			}
		}
	}
}
