package num

import (
	"math/bits"

	"prolix/api"
)

// pair is what an operator of two numbers is asked of.
type pair struct{ a, b int64 }

func (p pair) sum() (int64, api.Errno) {
	n := p.a + p.b
	if (n > p.a) != (p.b > 0) {
		return 0, api.ErrOver
	}
	return n, api.OK
}

func (p pair) difference() (int64, api.Errno) {
	n := p.a - p.b
	if (n < p.a) != (p.b > 0) {
		return 0, api.ErrOver
	}
	return n, api.OK
}

func (p pair) product() (int64, api.Errno) {
	high, low := bits.Mul64(magnitude(p.a), magnitude(p.b))
	if high != 0 {
		return 0, api.ErrOver
	}
	return signed(low, (p.a < 0) != (p.b < 0))
}

func (p pair) quotient() (int64, api.Errno) {
	switch p.b {
	case 0:
		return 0, api.ErrZero
	case -1: // the one divisor whose quotient may be too great
		return single(p.a).negated()
	}
	return p.a / p.b, api.OK
}

func (p pair) rest() (int64, api.Errno) {
	if p.b == 0 {
		return 0, api.ErrZero
	}
	return p.a % p.b, api.OK // of -2^63 and -1 too: the quotient is too great, the rest is 0
}

func (p pair) floor() (int64, api.Errno) {
	n, e := p.quotient()
	if e != api.OK {
		return 0, e
	}
	if p.unlike() {
		n--
	}
	return n, api.OK
}

func (p pair) modulus() (int64, api.Errno) {
	n, e := p.rest()
	if e != api.OK {
		return 0, e
	}
	if p.unlike() {
		n += p.b
	}
	return n, api.OK
}

// unlike says whether the quotients towards 0 and downwards are unlike; b isn't 0.
func (p pair) unlike() bool {
	n, _ := p.rest()
	return n != 0 && (n < 0) != (p.b < 0)
}

func (p pair) least() (int64, api.Errno)    { return min(p.a, p.b), api.OK }
func (p pair) greatest() (int64, api.Errno) { return max(p.a, p.b), api.OK }
func (p pair) and() (int64, api.Errno)      { return p.a & p.b, api.OK }
func (p pair) or() (int64, api.Errno)       { return p.a | p.b, api.OK }
func (p pair) xor() (int64, api.Errno)      { return p.a ^ p.b, api.OK }

func (p pair) left() (int64, api.Errno) {
	if p.b < 0 || p.b > 63 {
		return 0, api.ErrOver
	}
	by := uint64(p.b)
	n := p.a << by
	if n>>by != p.a { // bits that count have gone out on the left
		return 0, api.ErrOver
	}
	return n, api.OK
}

func (p pair) right() (int64, api.Errno) {
	if p.b < 0 {
		return 0, api.ErrOver
	}
	return p.a >> uint64(min(p.b, 63)), api.OK
}

func (p pair) power() (int64, api.Errno) {
	switch {
	case p.a == 1 || p.b == 0:
		return 1, api.OK
	case p.a == -1:
		return 1 - 2*(p.b&1), api.OK
	case p.a == 0 && p.b < 0:
		return 0, api.ErrZero
	case p.a == 0:
		return 0, api.OK
	case p.b < 0 || p.b > 63: // of all that are left even 2 and -2 come to too much
		return 0, api.ErrOver
	}
	return p.repeated()
}

// repeated is a times itself, b times; b is small.
func (p pair) repeated() (int64, api.Errno) {
	n := int64(1)
	for range p.b {
		next, e := pair{n, p.a}.product()
		if e != api.OK {
			return 0, e
		}
		n = next
	}
	return n, api.OK
}
