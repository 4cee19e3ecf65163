package write_test

import (
	"slices"
	"strings"
	"testing"
	"unsafe"

	"prolix/api"
	"prolix/write"
)

// everything is a term that is written in each way that there is.
func everything(t *testing.T) api.Term {
	return parse(t, `:-('Foo bar'(A,foo,[foo,'B'|A],[]),','({}(-(foo)),','(-(-1,xfy(foo,foo)),','(yf(foo),f(','(foo,-),foo)))))`, none())
}

// copied is a term in memory of its own, with that as spare room behind its Args.
func copied(t api.Term, spare api.Term) api.Term {
	t.S = strings.Clone(t.S)
	l := make([]api.Term, 0, len(t.Args)+1)
	for _, a := range t.Args {
		l = append(l, copied(a, spare))
	}
	t.Args = append(l, spare)[:len(l)]
	return t
}

// spareIs says whether the spare room behind a term's Args, and theirs, still is that.
func spareIs(t api.Term, spare api.Term) bool {
	return same(t.Args[:len(t.Args)+1][len(t.Args)], spare) && !slices.ContainsFunc(t.Args, func(a api.Term) bool { return !spareIs(a, spare) })
}

// TestP7_1Unchanged: neither the term, nor its lists' spare room, nor the table are changed; the same is answered again.
func TestP7_1Unchanged(t *testing.T) {
	want, spare := everything(t), atom("spare")
	o := table()
	defs := o.List()
	x := copied(want, spare)
	for way := write.Bare; way <= write.Canonical; way++ {
		first := put(t, x, way, o)
		hold(t, x, way, o, first)
		hold(t, want, way, table(), first)
		if !same(x, want) || !spareIs(x, spare) {
			t.Errorf("way %d: the term is changed: %s", way, show(x))
		}
	}
	if !slices.Equal(o.List(), defs) {
		t.Error("the table is changed")
	}
}

// TestP7_1NewMemory: what becomes of the names' memory says nothing of a text that is written.
func TestP7_1NewMemory(t *testing.T) {
	for _, x := range []api.Term{atom("foo"), atom("Foo bar"), atom("-"), everything(t)} {
		for way := write.Bare; way <= write.Canonical; way++ {
			var memory [][]byte
			var own func(t api.Term) api.Term
			own = func(t api.Term) api.Term {
				b := []byte(t.S)
				memory = append(memory, b)
				t.S = unsafe.String(unsafe.SliceData(b), len(b))
				t.Args = slices.Clone(t.Args)
				for i, a := range t.Args {
					t.Args[i] = own(a)
				}
				return t
			}
			text := put(t, own(x), way, table())
			want := strings.Clone(text)
			for _, b := range memory {
				for i := range b {
					b[i] = '#'
				}
			}
			if text != want {
				t.Errorf("way %d: %s, now %s", way, want, text)
			}
		}
	}
}
