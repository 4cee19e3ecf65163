package num_test

import (
	"math"
	"math/big"
	"strings"
	"testing"

	"prolix/api"
	"prolix/num"
)

func TestP1_3Print(t *testing.T) {
	for n, s := range map[int64]string{0: "0", 7: "7", -7: "-7", 10: "10", 100: "100", -100: "-100", math.MaxInt64: "9223372036854775807", math.MinInt64: "-9223372036854775808"} {
		if got := num.Print(n); got != s {
			t.Errorf("%d: %q", n, got)
		}
	}
	for _, n := range edges() {
		if got, want := num.Print(n), big.NewInt(n).String(); got != want {
			t.Errorf("%d: %q", n, got)
		}
	}
}

func TestP1_3Told(t *testing.T) {
	const least, most = math.MinInt64, math.MaxInt64
	for _, x := range []struct {
		s    string
		base int
		n    int64
		e    api.Errno
	}{
		{"0", 10, 0, api.OK},
		{"255", 10, 255, api.OK},
		{"ff", 16, 255, api.OK},
		{"fF", 16, 255, api.OK},
		{"777", 8, 511, api.OK},
		{"zZ", 36, 35*36 + 35, api.OK},
		{"yY", 35, 34*35 + 34, api.OK},
		{strings.Repeat("0", 1000) + "12", 10, 12, api.OK},
		{"9223372036854775807", 10, most, api.OK},
		{"9223372036854775808", 10, least, api.OK},
		{"9223372036854775809", 10, 0, api.ErrOver},
		{"18446744073709551615", 10, 0, api.ErrOver},
		{"18446744073709551616", 10, 0, api.ErrOver},
		{"18446744073709551617", 10, 0, api.ErrOver},
		{"7fffffffffffffff", 16, most, api.OK},
		{"8000000000000000", 16, least, api.OK},
		{"8000000000000001", 16, 0, api.ErrOver},
		{"10000000000000000", 16, 0, api.ErrOver},
		{"100000000000000001", 16, 0, api.ErrOver},
		{"1" + strings.Repeat("0", 63), 2, least, api.OK},
		{"1" + strings.Repeat("0", 62) + "1", 2, 0, api.ErrOver},
		{"1" + strings.Repeat("0", 64), 2, 0, api.ErrOver},
		{strings.Repeat("9", 5000), 10, 0, api.ErrOver},
		{strings.Repeat("9", 5000) + "x", 10, 0, api.ErrForm},
		{strings.Repeat("z", 5000), 36, 0, api.ErrOver},
		{"", 10, 0, api.ErrForm},
		{"-1", 10, 0, api.ErrForm},
		{"+1", 10, 0, api.ErrForm},
		{" 1", 10, 0, api.ErrForm},
		{"1 ", 10, 0, api.ErrForm},
		{"1_0", 10, 0, api.ErrForm},
		{"0x1", 16, 0, api.ErrForm},
		{"1a", 10, 0, api.ErrForm},
		{"2", 2, 0, api.ErrForm},
		{"g", 16, 0, api.ErrForm},
		{"G", 16, 0, api.ErrForm},
		{"z", 35, 0, api.ErrForm},
		{"\u0661", 10, 0, api.ErrForm},
		{"1", 0, 0, api.ErrArg},
		{"1", 1, 0, api.ErrArg},
		{"1", 37, 0, api.ErrArg},
		{"1", -10, 0, api.ErrArg},
		{"", 1, 0, api.ErrArg},
		{"!", 37, 0, api.ErrArg},
		{"1", math.MaxInt, 0, api.ErrArg},
		{"1", math.MinInt, 0, api.ErrArg},
	} {
		if n, e := num.Parse(x.s, x.base); n != x.n || e != x.e {
			t.Errorf("%.40q in %d: %d, error %d; want %d, error %d", x.s, x.base, n, e, x.n, x.e)
		}
	}
}

// TestP1_3Bytes asks of each byte, in each base, whether it is a digit, and which.
func TestP1_3Bytes(t *testing.T) {
	const digits = "0123456789abcdefghijklmnopqrstuvwxyz"
	for base := 2; base <= 36; base++ {
		for c := range 256 {
			low := c
			if 'A' <= c && c <= 'Z' {
				low += 'a' - 'A'
			}
			n, e := num.Parse("1"+string([]byte{byte(c)}), base)
			at := strings.IndexByte(digits[:base], byte(low))
			if at < 0 && (n != 0 || e != api.ErrForm) || at >= 0 && (n != int64(base+at) || e != api.OK) {
				t.Errorf("byte %d in %d: %d, error %d", c, base, n, e)
			}
		}
	}
}

// TestP1_3Bases reads numbers around 2^63 in each base.
func TestP1_3Bases(t *testing.T) {
	most := new(big.Int).Lsh(big.NewInt(1), 63)
	for base := 2; base <= 36; base++ {
		for d := int64(-40); d <= 40; d++ {
			far := new(big.Int).Add(most, big.NewInt(d))
			n, e := num.Parse(far.Text(base), base)
			switch {
			case d < 0 && (n != far.Int64() || e != api.OK),
				d == 0 && (n != math.MinInt64 || e != api.OK),
				d > 0 && (n != 0 || e != api.ErrOver):
				t.Errorf("2^63 + %d in %d: %d, error %d", d, base, n, e)
			}
		}
		for by := uint(0); by < 200; by++ { // beyond 2^64 too
			far := new(big.Int).Lsh(big.NewInt(1), by)
			if n, e := num.Parse(far.Text(base), base); by > 63 && (n != 0 || e != api.ErrOver) || by < 63 && (n != 1<<by || e != api.OK) {
				t.Errorf("2^%d in %d: %d, error %d", by, base, n, e)
			}
		}
	}
}
