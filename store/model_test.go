package store_test

import (
	"fmt"
	"maps"
	"math"
	"slices"
	"testing"

	"prolix/api"
	"prolix/store"
	"prolix/term"
)

// model is a store as the chapter's sentences tell it, one by one: whatever is asked, all is looked through.
type model struct {
	room  int
	cells []held
	binds [][2]int // which variable, to which cell
}

// held is what a cell holds, but for what it is bound to.
type held struct {
	t    api.Term
	args []int
}

func (m *model) has(at int) bool { return 0 <= at && at < len(m.cells) }

func (m *model) follow(at int) int {
	if !m.has(at) {
		return -1
	}
	for _, b := range m.binds {
		if b[0] == at {
			return m.follow(b[1])
		}
	}
	return at
}

func (m *model) look(at int) (api.Term, []int) {
	if !m.has(at) {
		return api.Term{}, nil
	}
	h := m.cells[m.follow(at)]
	return h.t, h.args
}

func (m *model) fresh() (int, api.Errno) {
	if len(m.cells) == m.room {
		return 0, api.ErrFull
	}
	m.cells = append(m.cells, held{t: variable(int64(len(m.cells)))})
	return len(m.cells) - 1, api.OK
}

// put puts the term where there is room for anything, and sees then whether there was room for it.
func (m *model) put(t api.Term, vars map[int64]int) (int, api.Errno) {
	if e := term.Check(t); e != api.OK {
		return 0, e
	}
	for _, n := range term.Vars(t) {
		if at, told := vars[n]; told && !m.has(at) {
			return 0, api.ErrArg
		}
	}
	after := model{math.MaxInt, slices.Clone(m.cells), nil}
	told := map[int64]int{}
	maps.Copy(told, vars)
	at := after.place(t, told)
	if len(after.cells) > m.room {
		return 0, api.ErrFull
	}
	m.cells = after.cells
	if vars != nil {
		maps.Copy(vars, told)
	}
	return at, api.OK
}

func (m *model) place(t api.Term, vars map[int64]int) int {
	if t.Kind == api.Var {
		if _, told := vars[t.N]; !told {
			vars[t.N], _ = m.fresh()
		}
		return vars[t.N]
	}
	at := len(m.cells)
	m.cells = append(m.cells, held{t: api.Term{Kind: t.Kind, N: t.N, S: t.S}})
	for _, a := range t.Args {
		m.cells[at].args = append(m.cells[at].args, m.place(a, vars))
	}
	return at
}

// measured is how many parts each cell's term has, and how deep it is, as far as it is to be told: from leaves on by one step up at a time; what grows still, when there were as many steps as cells, has itself as a part.
func (m *model) measured() (parts, deep []int) {
	parts, deep = make([]int, len(m.cells)), make([]int, len(m.cells))
	for range len(m.cells) + 1 {
		wereParts, wereDeep := slices.Clone(parts), slices.Clone(deep)
		for at := range m.cells {
			_, args := m.look(at)
			parts[at], deep[at] = 1, 1
			for _, a := range args {
				parts[at] = min(parts[at]+wereParts[a], api.MaxSize+1)
				deep[at] = max(deep[at], 1+wereDeep[a])
			}
		}
	}
	for at := range deep {
		if deep[at] > len(m.cells) {
			deep[at] = api.MaxDeep + 1
		}
	}
	return parts, deep
}

// all are the terms of all cells, and their errors; of a store with at most MaxDeep cells.
func (m *model) all() ([]api.Term, []api.Errno) {
	terms, errors := make([]api.Term, len(m.cells)), make([]api.Errno, len(m.cells))
	parts, deep := m.measured()
	for at := range m.cells {
		switch {
		case deep[at] > api.MaxDeep:
			errors[at] = api.ErrDeep
		case parts[at] > api.MaxSize:
			errors[at] = api.ErrLong
		default:
			terms[at] = m.get(at)
		}
	}
	return terms, errors
}

func (m *model) get(at int) api.Term {
	t, args := m.look(at)
	for _, a := range args {
		t.Args = append(t.Args, m.get(a))
	}
	return t
}

func (m *model) bind(v, to int) api.Errno {
	if !m.has(v) || !m.has(to) {
		return api.ErrArg
	}
	v, to = m.follow(v), m.follow(to)
	if m.cells[v].t.Kind != api.Var {
		return api.ErrArg
	}
	if v != to {
		m.binds = append(m.binds, [2]int{v, to})
	}
	return api.OK
}

func (m *model) undo(mark int) {
	for len(m.binds) > 0 && len(m.binds) > mark {
		m.binds = m.binds[:len(m.binds)-1]
	}
}

func (m *model) cut(cells int) api.Errno {
	if cells < 0 || cells > len(m.cells) {
		return api.ErrArg
	}
	for _, b := range m.binds {
		if b[0] >= cells || b[1] >= cells {
			return api.ErrValue
		}
	}
	for _, h := range m.cells[:cells] {
		if slices.ContainsFunc(h.args, func(a int) bool { return a >= cells }) {
			return api.ErrValue
		}
	}
	m.cells = m.cells[:cells:cells]
	return api.OK
}

// both is a store and its model, of which all is asked that is asked of the other one.
type both struct {
	t      *testing.T
	s      *store.Store
	m      model
	vars   map[int64]int // what Put was told, and tells
	called []string
}

func newBoth(t *testing.T, room int) *both {
	return &both{t: t, s: made(t, room), m: model{room: room}, vars: map[int64]int{}}
}

// said notes a call, and holds its answer against the model's.
func (b *both) said(call string, got, want [2]int) {
	b.called = append(b.called, call)
	if got != want {
		b.t.Fatalf("%v: %v, want %v", b.called, got, want)
	}
}

func (b *both) fresh() {
	at, e := b.s.Fresh()
	want, err := b.m.fresh()
	b.said("Fresh", [2]int{at, int(e)}, [2]int{want, int(err)})
}

func (b *both) put(x api.Term, vars map[int64]int) {
	mine := maps.Clone(vars)
	at, e := b.s.Put(x, vars)
	want, err := b.m.put(x, mine)
	b.said("Put "+show(x), [2]int{at, int(e)}, [2]int{want, int(err)})
	if !maps.Equal(vars, mine) {
		b.t.Fatalf("%v: vars %v, want %v", b.called, vars, mine)
	}
}

func (b *both) bind(v, to int) {
	e := b.s.Bind(v, to)
	b.said(fmt.Sprint("Bind ", v, " ", to), [2]int{int(e)}, [2]int{int(b.m.bind(v, to))})
}

func (b *both) undo(mark int) {
	b.s.Undo(mark)
	b.m.undo(mark)
	b.said(fmt.Sprint("Undo ", mark), [2]int{}, [2]int{})
}

func (b *both) cut(cells int) {
	e := b.s.Cut(cells)
	b.said(fmt.Sprint("Cut ", cells), [2]int{int(e)}, [2]int{int(b.m.cut(cells))})
}

// counts holds all that is counted.
func (b *both) counts() {
	got := [3]int{b.s.Cells(), b.s.Trail(), b.s.Mark()}
	if want := [3]int{len(b.m.cells), len(b.m.binds), len(b.m.binds)}; got != want {
		b.t.Fatalf("%v: Cells, Trail, Mark %v, want %v", b.called, got, want)
	}
}

// all holds all that there is, and what there is beside it.
func (b *both) all() {
	b.counts()
	terms, errors := b.m.all()
	for at := -2; at < len(b.m.cells)+2; at++ {
		want, err := api.Term{}, api.ErrArg
		if b.m.has(at) {
			want, err = terms[at], errors[at]
		}
		if x, e := b.s.Get(at); !same(x, want) || e != err {
			b.t.Fatalf("%v: Get(%d): %s, error %d, want %s, error %d", b.called, at, show(x), e, show(want), err)
		}
		if got, want := b.s.Follow(at), b.m.follow(at); got != want {
			b.t.Fatalf("%v: Follow(%d): %d, want %d", b.called, at, got, want)
		}
		x, l := b.s.Look(at)
		if want, args := b.m.look(at); !same(x, want) || !slices.Equal(l, args) {
			b.t.Fatalf("%v: Look(%d): %s %v, want %s %v", b.called, at, show(x), l, show(want), args)
		}
	}
}
