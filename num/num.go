// Package num is layer 1: see shared/doc/01-num.md.
package num

import "prolix/api"

// Two is what an operator makes of two numbers.
func Two(op string, a, b int64) (int64, api.Errno) {
	do, ok := ofTwo()[op]
	if !ok {
		return 0, api.ErrNone
	}
	return do(pair{a, b})
}

// One is what an operator makes of one number.
func One(op string, a int64) (int64, api.Errno) {
	do, ok := ofOne()[op]
	if !ok {
		return 0, api.ErrNone
	}
	return do(single(a))
}

func ofTwo() map[string]func(pair) (int64, api.Errno) {
	return map[string]func(pair) (int64, api.Errno){
		"+":   pair.sum,
		"-":   pair.difference,
		"*":   pair.product,
		"//":  pair.quotient,
		"rem": pair.rest,
		"div": pair.floor,
		"mod": pair.modulus,
		"min": pair.least,
		"max": pair.greatest,
		"/\\": pair.and,
		"\\/": pair.or,
		"xor": pair.xor,
		"<<":  pair.left,
		">>":  pair.right,
		"**":  pair.power,
		"^":   pair.power,
	}
}

func ofOne() map[string]func(single) (int64, api.Errno) {
	return map[string]func(single) (int64, api.Errno){
		"-":    single.negated,
		"+":    single.itself,
		"abs":  single.distance,
		"sign": single.sign,
		"\\":   single.turned,
	}
}
