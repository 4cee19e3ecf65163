package store_test

import (
	"runtime"
	"slices"
	"strings"
	"testing"
	"unsafe"

	"prolix/api"
)

// owned is a term like t in memory that a test may overwrite: its lists, with spare room, and its names' bytes.
func owned(t api.Term, names *[][]byte) api.Term {
	b := []byte(t.S)
	*names = append(*names, b)
	t.S = unsafe.String(unsafe.SliceData(b), len(b))
	l := make([]api.Term, 0, len(t.Args)+2)
	for _, a := range t.Args {
		l = append(l, owned(a, names))
	}
	t.Args = l
	for i := range l[len(l):cap(l)] {
		l[len(l):cap(l)][i] = atom("spare")
	}
	return t
}

// spares says whether what stands in the spare room of a term's lists is as it was.
func spares(t api.Term) bool {
	for _, a := range t.Args[len(t.Args):cap(t.Args)] {
		if !same(a, atom("spare")) {
			return false
		}
	}
	return !slices.ContainsFunc(t.Args, func(a api.Term) bool { return !spares(a) })
}

// spoil overwrites all memory of a term's lists, their spare room too.
func spoil(t api.Term) {
	for i := range t.Args {
		spoil(t.Args[i])
	}
	l := t.Args[:cap(t.Args)]
	for i := range l {
		l[i] = comp("spoilt", whole(99))
	}
}

// TestP8_1PutKeepsNone: neither the term nor vars is changed, but as told, or kept.
func TestP8_1PutKeepsNone(t *testing.T) {
	s := made(t, 20)
	var names [][]byte
	want := comp("name", atom("some"), comp("other", variable(5), whole(3)), variable(6))
	x := owned(want, &names)
	fresh(t, s)
	vars := map[int64]int{6: 0, 8: -5}
	at := put(t, s, x, vars)
	if !same(x, want) || !spares(x) {
		t.Errorf("changed: %s", show(x))
	}
	spoil(x)
	for _, b := range names {
		for i := range b {
			b[i] = '#'
		}
	}
	clear(vars)
	want = comp("name", atom("some"), comp("other", variable(4), whole(3)), variable(0))
	got(t, "the term is spoilt", s, at, want, api.OK)
	looked(t, "the term is spoilt", s, at, api.Term{Kind: api.Comp, S: "name"}, 2, 3, 0)
	vars[6] = 1
	fresh(t, s)
	got(t, "vars is turned", s, at, want, api.OK)
	if len(vars) != 1 {
		t.Errorf("vars is kept: %v", vars)
	}
}

// TestP8_2LookNew: Args' cells are handed out in memory of their own.
func TestP8_2LookNew(t *testing.T) {
	s := made(t, 20)
	at := put(t, s, comp("f", atom("a"), atom("b"), atom("c")), nil)
	_, l := s.Look(at)
	_, other := s.Look(at)
	for i := range l[:cap(l)] {
		l[:cap(l)][i] = 99
	}
	if !slices.Equal(other, []int{1, 2, 3}) {
		t.Errorf("two answers share memory: %v", other)
	}
	looked(t, "an answer is spoilt", s, at, api.Term{Kind: api.Comp, S: "f"}, 1, 2, 3)
	got(t, "an answer is spoilt", s, at, comp("f", atom("a"), atom("b"), atom("c")), api.OK)
}

// TestP8_2GetNew: no two lists that are got share memory, though they are of one cell.
func TestP8_2GetNew(t *testing.T) {
	s := made(t, 20)
	g := put(t, s, comp("g", atom("a"), comp("h", whole(1))), nil)
	at := put(t, s, comp("f", variable(0), variable(0)), map[int64]int{0: g})
	part := comp("g", atom("a"), comp("h", whole(1)))
	want := comp("f", part, part)
	x, _ := s.Get(at)
	other, _ := s.Get(at)
	spoil(x.Args[0])
	if !same(x.Args[1], part) {
		t.Errorf("one part is another one's memory: %s", show(x))
	}
	spoil(x)
	if !same(other, want) {
		t.Errorf("two answers share memory: %s", show(other))
	}
	got(t, "an answer is spoilt", s, at, want, api.OK)
}

// TestP8_2Names: names are new memory too.
func TestP8_2Names(t *testing.T) {
	s := made(t, 20)
	at := put(t, s, comp("some", atom("name")), nil)
	var met []*byte
	for range 2 {
		x, _ := s.Get(at)
		y, _ := s.Look(at)
		z, _ := s.Look(at + 1)
		for _, name := range []string{x.S, x.Args[0].S, y.S, z.S} {
			if p := unsafe.StringData(name); slices.Contains(met, p) {
				t.Errorf("%s is handed out twice", name)
			}
			met = append(met, unsafe.StringData(name))
		}
	}
}

// inUse is how many bytes are in use.
func inUse() int64 {
	runtime.GC()
	var m runtime.MemStats
	runtime.ReadMemStats(&m)
	return int64(m.HeapAlloc)
}

// TestP8_3CutKeepsNone: of cells that are given back no name is kept.
func TestP8_3CutKeepsNone(t *testing.T) {
	const many, half = 20000, 10 << 20
	s := made(t, many)
	for range many {
		put(t, s, atom(strings.Repeat("n", api.MaxName)), nil)
	}
	before := inUse()
	cut(t, "names", s, 0, api.OK)
	if after := inUse(); after > before-half {
		t.Errorf("%d bytes, then %d", before, after)
	}
	fresh(t, s)
}
