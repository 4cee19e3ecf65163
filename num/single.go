package num

import "prolix/api"

// single is what an operator of one number is asked of.
type single int64

func (s single) negated() (int64, api.Errno) { return pair{0, int64(s)}.difference() }
func (s single) itself() (int64, api.Errno)  { return int64(s), api.OK }

func (s single) distance() (int64, api.Errno) { return signed(magnitude(int64(s)), false) }
func (s single) turned() (int64, api.Errno)   { return ^int64(s), api.OK }

func (s single) sign() (int64, api.Errno) {
	switch {
	case s < 0:
		return -1, api.OK
	case s > 0:
		return 1, api.OK
	}
	return 0, api.OK
}

// magnitude is how far n is from 0: of -2^63 no int64 can tell it.
func magnitude(n int64) uint64 {
	if n < 0 {
		return -uint64(n)
	}
	return uint64(n)
}

// signed is the number so far from 0, on that side of it.
func signed(far uint64, below bool) (int64, api.Errno) {
	switch {
	case below && far <= 1<<63:
		return int64(-far), api.OK
	case !below && far < 1<<63:
		return int64(far), api.OK
	}
	return 0, api.ErrOver
}
