package token

import (
	"strings"

	"prolix/api"
	"prolix/name"
	"prolix/num"
)

// number is told by what it begins with: what needs more behind that and hasn't got it is no number, not even a 0.
func (p *place) number() (api.Token, int) {
	switch {
	case strings.HasPrefix(p.left, "0x"):
		return p.digits(2, 16)
	case strings.HasPrefix(p.left, "0o"):
		return p.digits(2, 8)
	case strings.HasPrefix(p.left, "0b"):
		return p.digits(2, 2)
	case strings.HasPrefix(p.left, "0'"):
		return p.character()
	}
	return p.digits(0, 10)
}

// digits are a number in that base, if there are any so many bytes from here, and they come to no more than 2^63.
func (p *place) digits(from, base int) (api.Token, int) {
	end := from
	for end < len(p.left) && digit(p.left[end:end+1], base) {
		end++
	}
	n, e := num.Parse(p.left[from:end], base)
	if e != api.OK {
		return api.Token{}, 0
	}
	return api.Token{Kind: api.Number, N: n}, end
}

func digit(s string, base int) bool {
	_, e := num.Parse(s, base)
	return e == api.OK
}

// character is the number of the byte that stands behind 0', written as it may be within quotes: so a quote and a \ need one byte more.
func (p *place) character() (api.Token, int) {
	s := p.left[2:]
	size := 1
	if strings.HasPrefix(s, "'") || strings.HasPrefix(s, "\\") {
		size = 2
	}
	if len(s) < size {
		return api.Token{}, 0
	}
	got, _, _ := name.Get(s[:size]+"'", '\'')
	if len(got) != 1 { // nothing, too, is what is got beside an error
		return api.Token{}, 0
	}
	return api.Token{Kind: api.Number, N: int64(got[0])}, 2 + size
}
