package token

import (
	"strings"

	"prolix/api"
	"prolix/name"
)

func (p *place) stop() (api.Token, int) {
	if p.left[0] != '.' || len(p.left) > 1 && p.left[1] != '%' && name.Sort(p.left[1]) != name.Blank {
		return api.Token{}, 0
	}
	return api.Token{Kind: api.Stop}, 1
}

func (p *place) word() (api.Token, int)  { return p.letters(name.Small, api.Name) }
func (p *place) named() (api.Token, int) { return p.letters(name.Large, api.Named) }

// letters are a token of that Kind, if a byte of that sort is the first one.
func (p *place) letters(sort, kind int) (api.Token, int) {
	if name.Sort(p.left[0]) != sort {
		return api.Token{}, 0
	}
	return p.text(kind, p.run(letter))
}

func letter(c byte) bool {
	switch name.Sort(c) {
	case name.Small, name.Large, name.Digit:
		return true
	}
	return false
}

func (p *place) signs() (api.Token, int) {
	if strings.HasPrefix(p.left, comment) {
		return api.Token{}, 0
	}
	return p.text(api.Name, p.run(sign))
}

func sign(c byte) bool { return name.Sort(c) == name.Sign }

func (p *place) solo() (api.Token, int)  { return p.alone(name.Solo, api.Name) }
func (p *place) punct() (api.Token, int) { return p.alone(name.Punct, api.Punct) }

// alone is one byte of that sort as a token of that Kind.
func (p *place) alone(sort, kind int) (api.Token, int) {
	if name.Sort(p.left[0]) != sort {
		return api.Token{}, 0
	}
	return p.text(kind, 1)
}

// text is so many bytes as a token; cloned, since an answer shares no memory with an argument.
func (p *place) text(kind, size int) (api.Token, int) {
	return api.Token{Kind: kind, S: strings.Clone(p.left[:size])}, size
}

func (p *place) quoted() (api.Token, int) { return p.within('\'', api.Quoted) }
func (p *place) codes() (api.Token, int)  { return p.within('"', api.Codes) }

func (p *place) within(quote byte, kind int) (api.Token, int) {
	if p.left[0] != quote {
		return api.Token{}, 0
	}
	s, n, e := name.Get(p.left[1:], quote)
	if e != api.OK {
		return api.Token{}, 0
	}
	return api.Token{Kind: kind, S: s}, 1 + n
}
