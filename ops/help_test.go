package ops_test

import (
	"fmt"
	"math"
	"slices"
	"strings"
	"testing"

	"prolix/api"
	"prolix/ops"
)

// model is a table as the document tells it: a list of its operators, in no order, that is looked through.
type model []ops.Def

var sortOf = map[int]string{api.XFX: "infix", api.XFY: "infix", api.YFX: "infix", api.FX: "prefix", api.FY: "prefix", api.XF: "postfix", api.YF: "postfix"}

func (m model) find(sort, name string) (place int) {
	return slices.IndexFunc(m, func(d ops.Def) bool { return sortOf[d.Type] == sort && d.Name == name })
}

func (m *model) op(pri, typ int, name string) api.Errno {
	sort, known := sortOf[typ]
	if pri < 0 || pri > 1200 || !known || len(name) > 1000 {
		return api.ErrArg
	}
	if slices.Contains([]string{",", "|", "[]", "{}"}, name) {
		return api.ErrPerm
	}
	at := m.find(sort, name)
	if pri == 0 {
		if at >= 0 {
			*m = slices.Delete(*m, at, at+1)
		}
		return api.OK
	}
	if sort == "infix" && m.find("postfix", name) >= 0 || sort == "postfix" && m.find("infix", name) >= 0 {
		return api.ErrPerm
	}
	if at < 0 && len(*m) == 256 {
		return api.ErrFull
	}
	if at < 0 {
		at = len(*m)
		*m = append(*m, ops.Def{})
	}
	(*m)[at] = ops.Def{Pri: pri, Type: typ, Name: name}
	return api.OK
}

// side is the most of a side, on which that letter stands.
func side(pri int, letter byte) int {
	if letter == 'x' {
		return pri - 1
	}
	return pri
}

// answers are what a table says of one name, as a text.
func (m model) answers(name string) string {
	var pre, in, post string = "0 0", "0 0 0", "0 0"
	letters := map[int]string{api.XFX: "xfx", api.XFY: "xfy", api.YFX: "yfx", api.FX: "fx", api.FY: "fy", api.XF: "xf", api.YF: "yf"}
	any := false
	for _, d := range m {
		if d.Name != name {
			continue
		}
		any = true
		l := letters[d.Type]
		switch sortOf[d.Type] {
		case "prefix":
			pre = fmt.Sprint(d.Pri, side(d.Pri, l[1]))
		case "infix":
			in = fmt.Sprint(d.Pri, side(d.Pri, l[0]), side(d.Pri, l[2]))
		case "postfix":
			post = fmt.Sprint(d.Pri, side(d.Pri, l[0]))
		}
	}
	return fmt.Sprintf("%q: %s, %s, %s, %v", name, pre, in, post, any)
}

func answers(t *ops.Table, name string) string {
	pre, preRight := t.Prefix(name)
	in, left, right := t.Infix(name)
	post, postLeft := t.Postfix(name)
	return fmt.Sprintf("%q: %d %d, %d %d %d, %d %d, %v", name, pre, preRight, in, left, right, post, postLeft, t.Is(name))
}

func (m model) list() []ops.Def {
	l := slices.Clone(m)
	slices.SortFunc(l, func(a, b ops.Def) int {
		if a.Name != b.Name {
			return strings.Compare(a.Name, b.Name)
		}
		return a.Type - b.Type
	})
	return l
}

// hold holds a table against a model: its list, and what it says of each name there, and of these.
func hold(t *testing.T, about string, table *ops.Table, m model, names ...string) {
	t.Helper()
	if got, want := table.List(), m.list(); !slices.Equal(got, want) {
		t.Fatalf("%s:\nis   %v\nwant %v", about, got, want)
	}
	for _, d := range m {
		names = append(names, d.Name)
	}
	for _, name := range names {
		if got, want := answers(table, name), m.answers(name); got != want {
			t.Fatalf("%s:\nis   %s\nwant %s", about, got, want)
		}
	}
}

// do does the same with a table and a model.
func do(t *testing.T, table *ops.Table, m *model, pri, typ int, name string) api.Errno {
	t.Helper()
	got, want := table.Op(pri, typ, name), m.op(pri, typ, name)
	if got != want {
		t.Fatalf("Op(%d, %d, %.20q): error %d, want %d", pri, typ, name, got, want)
	}
	return got
}

// priorities are those near a bound, right and wrong.
func priorities() []int {
	return []int{math.MinInt, -1 << 32, -1201, -1, 0, 1, 2, 200, 999, 1199, 1200, 1201, 1<<32 + 200, math.MaxInt}
}

// types are all that there are, and wrong ones.
func types() []int {
	return []int{math.MinInt, -1 << 32, -1, 0, 1, 2, 3, 4, 5, 6, 7, 8, 9, 1<<32 + 1, math.MaxInt}
}

// unknown are names that are no operators at first.
func unknown() []string {
	return []string{"", " ", "foo", "|", "[]", "{}", "[", "{", "(", ".", "!", "Is", "is ", "IS", "i", ":", ":-:", "-->>", "dynamics", "a,b", ",,", "\x00", ":-\x00", "\xff", "é", strings.Repeat("a", 1000), strings.Repeat("-", 1001), strings.Repeat(",", 5000)}
}
