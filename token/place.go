package token

import (
	"strings"

	"prolix/name"
)

// place is where a text has been read to.
type place struct {
	left string // what stands from here on
	line int
}

// pass goes on by n bytes.
func (p *place) pass(n int) {
	p.line += strings.Count(p.left[:n], "\n")
	p.left = p.left[n:]
}

// between goes on to where the next token may begin, and says whether anything stood ahead of that.
func (p *place) between() bool {
	from := len(p.left)
	for n := p.gap(); n > 0; n = p.gap() {
		p.pass(n)
	}
	return len(p.left) < from
}

// gap is how many bytes here are a blank or a comment.
//
// A comment that isn't closed is none: it stays, and as no token begins so, the mistake is told where it begins.
func (p *place) gap() int {
	switch {
	case p.left == "":
		return 0
	case name.Sort(p.left[0]) == name.Blank:
		return 1
	case p.left[0] == '%':
		line, _, _ := strings.Cut(p.left, "\n")
		return len(line)
	case strings.HasPrefix(p.left, comment):
		within, _, closed := strings.Cut(p.left[len(comment):], "*/")
		if closed {
			return len(comment) + len(within) + len("*/")
		}
	}
	return 0
}

// comment is what one begins with that may go over lines.
const comment = "/*"

// run is how many bytes from here on are all such.
func (p *place) run(such func(byte) bool) int {
	n := 0
	for n < len(p.left) && such(p.left[n]) {
		n++
	}
	return n
}
