package read_test

import (
	"slices"
	"testing"
	"unsafe"

	"prolix/api"
	"prolix/read"
)

// texts are all names in a clause that was read.
func texts(c read.Clause) []string {
	var l []string
	for _, b := range c.Names {
		l = append(l, b.Name)
	}
	var on func(t api.Term)
	on = func(t api.Term) {
		l = append(l, t.S)
		for _, a := range t.Args {
			on(a)
		}
	}
	on(c.Term)
	return l
}

const everything = "'f g'(Xyz, foo, 'b c', \"de\", [foo|Xyz], {foo}, - foo, foo = foo, foo yf, _abc, (foo, foo), [](foo), {}(foo, foo), -1, []) :- Xyz ',' foo."

// TestP6_1NewNamesMemory: no name is a token's own memory.
func TestP6_1NewNamesMemory(t *testing.T) {
	l := lex(t, everything)
	theirs := map[*byte]string{}
	for _, x := range l {
		theirs[unsafe.StringData(x.S)] = x.S
	}
	c, e := read.Read(l, 0, table())
	if e != api.OK {
		t.Fatal(told(c, e))
	}
	for _, s := range texts(c) {
		if s != "" && theirs[unsafe.StringData(s)] != "" {
			t.Errorf("%q is a token's", s)
		}
	}
}

// TestP6_1Kept: what becomes of the tokens' memory, and of their list's, says nothing of what was read.
func TestP6_1Kept(t *testing.T) {
	l := lex(t, everything)
	var memory [][]byte
	for i := range l {
		b := []byte(l[i].S)
		memory = append(memory, b)
		l[i].S = unsafe.String(unsafe.SliceData(b), len(b))
	}
	c, e := read.Read(l, 0, table())
	want := told(c, e)
	for i, b := range memory {
		l[i] = api.Token{}
		for j := range b {
			b[j] = '#'
		}
	}
	if got := told(c, e); got != want {
		t.Errorf("\nis   %s\nwant %s", got, want)
	}
}

// TestP6_1Apart: no two lists of an answer, and none of two answers, share memory, their spare room too.
func TestP6_1Apart(t *testing.T) {
	l := lex(t, everything)
	first, _ := read.Read(l, 0, table())
	again, _ := read.Read(l, 0, table())
	var lists [][]api.Term
	var on func(t api.Term)
	on = func(t api.Term) {
		if t.Args != nil {
			lists = append(lists, t.Args[:cap(t.Args)])
		}
		for _, a := range t.Args {
			on(a)
		}
	}
	on(first.Term)
	on(again.Term)
	met := map[*api.Term]bool{}
	for _, x := range lists {
		for i := range x {
			if met[&x[i]] {
				t.Fatalf("%s stands in two lists", show(x[i]))
			}
			met[&x[i]] = true
		}
	}
	names := again.Names[:cap(again.Names)]
	for i := range names {
		names[i] = read.Bind{Name: "spoilt", N: 99}
	}
	if want := []read.Bind{{Name: "Xyz", N: 0}, {Name: "_abc", N: 1}}; !slices.Equal(first.Names, want) {
		t.Errorf("%v, want %v", first.Names, want)
	}
}

// TestP6_1Bare: leaves have no lists, and there are no names where none was.
func TestP6_1Bare(t *testing.T) {
	for _, text := range []string{"a.", "1.", "-1.", "[].", "{}.", "\"\".", "(a).", "_."} {
		c, e := read.Read(lex(t, text), 0, table())
		if e != api.OK || c.Term.Args != nil || len(c.Names) != 0 {
			t.Errorf("%s: error %d, %#v, %v", text, e, c.Term, c.Names)
		}
	}
}
