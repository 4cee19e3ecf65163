package read

import (
	"prolix/api"
	"prolix/ops"
)

// The most that a priority may be.
const (
	highest  = 1200 // of a clause, and of what stands in ( ) or { }
	argument = 999
)

// reader reads one clause.
//
// The terms that are begun, each within the one ahead of it, wait in a list: they may be nested deeper than calls.
type reader struct {
	tokens    []api.Token
	at        int
	table     *ops.Table
	primaries map[int]primary
	vars      variables

	waiting []wanted
	begun   bool     // has the last one its primary?
	so      api.Term // what the last one is so far, if it is begun
	pri     int
}

// wanted is a term of at most a priority, and what is done with it when it is whole.
type wanted struct {
	most int
	then func(x api.Term)
}

func newReader(l []api.Token, at int, t *ops.Table) *reader {
	r := &reader{tokens: l, at: at, table: t, vars: variables{numbers: map[string]int64{}}}
	r.primaries = r.kinds()
	return r
}

// stuck is what a reader gives up with, when the next token can't go on.
type stuck struct{}

func (r *reader) giveUp() { panic(stuck{}) }

// clause is the term of a clause; false, if the next token can't go on.
func (r *reader) clause() (x api.Term, ok bool) {
	defer func() {
		p := recover()
		if _, told := p.(stuck); p != nil && !told {
			panic(p) // a mistake of the reader's is no mistake of the text's
		}
	}()
	r.want(highest, r.stop)
	for len(r.waiting) > 0 {
		r.step()
	}
	return r.so, true
}

func (r *reader) stop(x api.Term) {
	if r.next().Kind != api.Stop {
		r.giveUp()
	}
	r.pass()
	r.be(x, 0)
}

func (r *reader) step() {
	if r.begun {
		r.goOn()
	} else {
		r.begin()
	}
}

// want has a term begin here, within the one that is being read.
func (r *reader) want(most int, then func(x api.Term)) {
	r.waiting = append(r.waiting, wanted{most, then})
	r.begun = false
}

// be tells what the term that is being read is so far.
func (r *reader) be(x api.Term, pri int) {
	r.so, r.pri, r.begun = x, pri, true
}

// most is what the priority of the term that is being read may be.
func (r *reader) most() int { return r.waiting[len(r.waiting)-1].most }

// goOn takes the operator that stands behind what there is; if none does, that is whole.
func (r *reader) goOn() {
	t := r.next()
	if !mayJoin(t) || !r.infix(t.S) && !r.postfix(t.S) {
		r.end()
	}
}

// mayJoin says whether a token's text is to be looked for among the operators: that is done for each term that it may end, so not of a name too long for any.
func mayJoin(t api.Token) bool {
	switch t.Kind {
	case api.Name, api.Quoted:
		return len(t.S) <= api.MaxName
	}
	return t.Kind == api.Punct && t.S == ","
}

func (r *reader) infix(name string) bool {
	pri, left, right := r.table.Infix(name)
	if !r.fits(pri, left) {
		return false
	}
	r.pass()
	so := r.so
	r.want(right, func(x api.Term) { r.be(comp(name, so, x), pri) })
	return true
}

func (r *reader) postfix(name string) bool {
	pri, left := r.table.Postfix(name)
	if !r.fits(pri, left) {
		return false
	}
	r.pass()
	r.be(comp(name, r.so), pri)
	return true
}

// fits says whether an operator may stand behind what there is; of a priority of 0 it is none.
func (r *reader) fits(pri, left int) bool {
	return pri > 0 && pri <= r.most() && left >= r.pri
}

// end hands on the term that was being read: it is whole.
func (r *reader) end() {
	last := len(r.waiting) - 1
	then := r.waiting[last].then
	r.waiting = r.waiting[:last]
	then(r.so)
}

// next is the next token; where there is none, the zero one: an End, on the line 0.
func (r *reader) next() api.Token {
	if r.at < 0 || r.at >= len(r.tokens) {
		return api.Token{}
	}
	return r.tokens[r.at]
}

func (r *reader) pass() { r.at++ }

// takes goes on by that Punct, if it is next.
func (r *reader) takes(s string) bool {
	t := r.next()
	if t.Kind != api.Punct || t.S != s {
		return false
	}
	r.pass()
	return true
}

func (r *reader) expect(s string) {
	if !r.takes(s) {
		r.giveUp()
	}
}

// behind is the place where reading may go on behind a clause that is none.
func (r *reader) behind() int {
	for at := r.at; at < len(r.tokens); at++ {
		switch r.tokens[at].Kind {
		case api.Stop:
			return at + 1
		case api.End:
			return at
		}
	}
	return len(r.tokens)
}
