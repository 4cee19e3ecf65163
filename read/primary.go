package read

import "prolix/api"

// primary reads what begins with a token, that is the next one, and passes it only if it can go on.
type primary func(t api.Token)

// kinds are the primaries by their first tokens' Kinds.
func (r *reader) kinds() map[int]primary {
	return map[int]primary{
		api.Number: r.number,
		api.Named:  r.named,
		api.Codes:  r.codes,
		api.Punct:  r.bracket,
		api.Name:   r.word,
		api.Quoted: r.word,
	}
}

func (r *reader) begin() {
	t := r.next()
	read, ok := r.primaries[t.Kind]
	if !ok {
		r.giveUp()
	}
	read(t)
}

func (r *reader) number(t api.Token) {
	if t.N < 0 { // 2^63 is an Int only behind a -
		r.giveUp()
	}
	r.pass()
	r.be(whole(t.N), 0)
}

func (r *reader) named(t api.Token) {
	r.pass()
	r.be(api.Term{Kind: api.Var, N: r.vars.number(t.S)}, 0)
}

func (r *reader) codes(t api.Token) {
	r.pass()
	r.be(list(bytes(t.S), atom("[]")), 0)
}

func (r *reader) bracket(t api.Token) {
	switch t.S {
	case "(":
		r.pass()
		r.want(highest, r.inRound)
	case "[":
		r.pass()
		if !r.closes("]", "[]") {
			r.arguments(nil, r.items)
		}
	case "{":
		r.pass()
		if !r.closes("}", "{}") {
			r.want(highest, r.inBraces)
		}
	default:
		r.giveUp()
	}
}

func (r *reader) inRound(x api.Term) {
	r.expect(")")
	r.be(x, 0)
}

func (r *reader) inBraces(x api.Term) {
	r.expect("}")
	r.be(comp("{}", x), 0)
}

// closes reads what closes a bracket, if it stands right behind it: both are that name.
func (r *reader) closes(closing, name string) bool {
	last := r.next()
	if !r.takes(closing) {
		return false
	}
	if last.Open {
		r.compound(name)
	} else {
		r.be(atom(name), 0)
	}
	return true
}

// arguments reads what stands behind these, up to where no , stands behind one.
func (r *reader) arguments(l []api.Term, all func(l []api.Term)) {
	r.want(argument, func(x api.Term) {
		l = append(l, x)
		if r.takes(",") {
			r.arguments(l, all)
		} else {
			all(l)
		}
	})
}

func (r *reader) compound(name string) {
	r.expect("(")
	r.arguments(nil, func(l []api.Term) {
		r.expect(")")
		r.be(comp(name, l...), 0)
	})
}

func (r *reader) items(l []api.Term) {
	listed := func(tail api.Term) {
		r.expect("]")
		r.be(list(l, tail), 0)
	}
	if r.takes("|") {
		r.want(argument, listed)
	} else {
		listed(atom("[]"))
	}
}

func (r *reader) word(t api.Token) {
	r.pass()
	switch {
	case r.negative(t):
	case t.Open:
		r.compound(t.S)
	case r.prefix(t.S):
	default:
		r.be(atom(t.S), 0)
	}
}

// negative reads the number behind a -, if it is a part of the number.
func (r *reader) negative(t api.Token) bool {
	n := r.next()
	if t.Kind != api.Name || t.S != "-" || n.Kind != api.Number || !n.Tight {
		return false
	}
	r.pass()
	r.be(whole(-n.N), 0)
	return true
}

func (r *reader) prefix(name string) bool {
	pri, right := r.table.Prefix(name)
	if pri == 0 || pri > r.most() || !r.mayBegin(r.next()) {
		return false
	}
	r.want(right, func(x api.Term) { r.be(comp(name, x), pri) })
	return true
}

// mayBegin says whether a term begins with a token.
func (r *reader) mayBegin(t api.Token) bool {
	switch t.Kind {
	case api.Number, api.Named, api.Codes:
		return true
	case api.Punct:
		return t.S == "(" || t.S == "[" || t.S == "{"
	case api.Name, api.Quoted:
		prefix, _ := r.table.Prefix(t.S)
		return t.Open || prefix > 0 || !r.table.Is(t.S)
	}
	return false
}
