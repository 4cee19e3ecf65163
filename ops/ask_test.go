package ops_test

import (
	"fmt"
	"math/rand"
	"slices"
	"strings"
	"testing"

	"prolix/api"
	"prolix/ops"
)

// TestP5_2Sides tries each priority of each type.
func TestP5_2Sides(t *testing.T) {
	for pri := 1; pri <= 1200; pri++ {
		less := pri - 1
		for typ, want := range map[int]string{
			api.XFX: fmt.Sprintf("0 0, %d %d %d, 0 0", pri, less, less),
			api.XFY: fmt.Sprintf("0 0, %d %d %d, 0 0", pri, less, pri),
			api.YFX: fmt.Sprintf("0 0, %d %d %d, 0 0", pri, pri, less),
			api.FX:  fmt.Sprintf("%d %d, 0 0 0, 0 0", pri, less),
			api.FY:  fmt.Sprintf("%d %d, 0 0 0, 0 0", pri, pri),
			api.XF:  fmt.Sprintf("0 0, 0 0 0, %d %d", pri, less),
			api.YF:  fmt.Sprintf("0 0, 0 0 0, %d %d", pri, pri),
		} {
			table := ops.New()
			if e := table.Op(pri, typ, "foo"); e != api.OK {
				t.Fatalf("Op(%d, %d): error %d", pri, typ, e)
			}
			if got := answers(table, "foo"); got != `"foo": `+want+", true" {
				t.Errorf("Op(%d, %d): %s, want %s", pri, typ, got, want)
			}
		}
	}
}

// TestP5_2Names: names are the same only if all their bytes are.
func TestP5_2Names(t *testing.T) {
	names := []string{"", " ", "a", "A", "aa", "a\x00", "\x00", "\x00a", "\xff", "\xff\xfe", "é", "e\u0301", "a b", "\n", "'a'", "[]a", "[ ]", ".", "(", "end_of_file", strings.Repeat("a", 999), strings.Repeat("a", 1000)}
	for _, name := range names {
		table, m := ops.New(), first()
		do(t, table, &m, 300, api.FY, name)
		do(t, table, &m, 300, api.YF, name)
		hold(t, fmt.Sprintf("%.20q", name), table, m, append(names, strings.Repeat("a", 1001))...)
	}
}

func TestP5_2List(t *testing.T) {
	table, m := ops.New(), first()
	for i, name := range []string{"b", "B", "ab", "a", "", "\xff", "aZ", "\x00", "~", "é", "a\x00", "_", "z", "10", "9"} {
		for _, typ := range [][]int{{api.YF, api.FY}, {api.FX, api.XFX}, {api.XFY, api.FY}}[i%3] {
			do(t, table, &m, 1200-i, typ, name)
		}
	}
	hold(t, "many", table, m)
	for _, d := range m.list() {
		do(t, table, &m, 0, d.Type, d.Name)
	}
	hold(t, "all unmade", table, model{{1000, api.XFY, ","}})
}

// TestP5_2ListNew: a list is its caller's, whatever is done with it.
func TestP5_2ListNew(t *testing.T) {
	table := ops.New()
	l, other := table.List(), table.List()
	l = l[:cap(l)]
	for i := range l {
		l[i] = ops.Def{Pri: 1, Type: api.YF, Name: "spoilt"}
	}
	if !slices.Equal(other, first()) {
		t.Errorf("two lists share memory: %v", other)
	}
	hold(t, "a list is spoilt", table, first(), "spoilt")
	table.Op(1, api.YF, "foo")
	if !slices.Equal(other, first()) {
		t.Errorf("a list goes with its table: %v", other)
	}
}

// TestP5_2Copy: a table, its Copy and that one's go their own ways.
func TestP5_2Copy(t *testing.T) {
	table, m := ops.New(), first()
	do(t, table, &m, 200, api.XF, "foo")
	copied, mine := table.Copy(), slices.Clone(m)
	hold(t, "a Copy", copied, mine)
	do(t, table, &m, 300, api.YF, "foo")
	do(t, table, &m, 0, api.XFX, "is")
	do(t, table, &m, 300, api.FY, "bar")
	hold(t, "a Copy, its table turned", copied, mine, "bar")
	again, others := copied.Copy(), slices.Clone(mine)
	do(t, copied, &mine, 0, api.XF, "foo")
	do(t, copied, &mine, 400, api.XFX, "foo")
	do(t, copied, &mine, 400, api.FX, "-")
	hold(t, "a table, its Copy turned", table, m, "bar")
	hold(t, "a Copy's Copy, the Copy turned", again, others, "bar")
	do(t, again, &others, 0, api.FY, "-")
	hold(t, "a Copy, its Copy turned", copied, mine, "bar")
	hold(t, "a table, its Copy's Copy turned", table, m, "bar")
	hold(t, "a Copy's Copy", again, others, "bar")
}

// step is a call of Op.
type step struct {
	pri, typ int
	name     string
}

// TestP5_3Short holds tables against models after each short row of calls.
func TestP5_3Short(t *testing.T) {
	var steps []step
	for _, name := range []string{"foo", "is", "-"} {
		for _, typ := range []int{api.XFX, api.YFX, api.FX, api.FY, api.XF, api.YF} {
			steps = append(steps, step{0, typ, name}, step{200, typ, name})
		}
	}
	steps = append(steps, step{200, api.XFY, ","}, step{1201, api.XFX, "foo"})
	var on func(table *ops.Table, m model, left int)
	on = func(table *ops.Table, m model, left int) {
		if left == 0 {
			return
		}
		for _, s := range steps {
			next, turned := table.Copy(), slices.Clone(m)
			do(t, next, &turned, s.pri, s.typ, s.name)
			hold(t, fmt.Sprint(s), next, turned, "foo", "is")
			on(next, turned, left-1)
		}
	}
	on(ops.New(), first(), 3)
}

// TestP5_3Long holds a table against a model through long rows of calls, that fill and empty it.
func TestP5_3Long(t *testing.T) {
	for seed := range int64(20) {
		r := rand.New(rand.NewSource(seed))
		table, m := ops.New(), first()
		filled := 0
		for n := range 4000 {
			pri := 1 + r.Intn(1200)
			if n/1000%2 == 1 && r.Intn(2) == 0 { // goes up, and down again
				pri = 0
			}
			name := fmt.Sprint("n", r.Intn(200))
			if r.Intn(10) == 0 {
				name = first()[r.Intn(43)].Name
			}
			if do(t, table, &m, pri, 1+r.Intn(7), name) == api.ErrFull {
				filled++
			}
			both(t, table, name)
		}
		if filled == 0 {
			t.Error("it was never full")
		}
		hold(t, fmt.Sprint("seed ", seed), table, m, unknown()...)
	}
}

// both: no name is infix and postfix both.
func both(t *testing.T, table *ops.Table, name string) {
	in, _, _ := table.Infix(name)
	post, _ := table.Postfix(name)
	if in != 0 && post != 0 {
		t.Fatalf("%q is infix and postfix", name)
	}
}

// TestP5_3Unmade: what is made and unmade is as it was, if it was none; by any type of its sort.
func TestP5_3Unmade(t *testing.T) {
	sorts := map[int][]int{api.XFX: {api.XFX, api.XFY, api.YFX}, api.XFY: {api.XFX, api.XFY, api.YFX}, api.YFX: {api.XFX, api.XFY, api.YFX}, api.FX: {api.FX, api.FY}, api.FY: {api.FX, api.FY}, api.XF: {api.XF, api.YF}, api.YF: {api.XF, api.YF}}
	for _, name := range []string{"foo", "", "is", "-", "\\+", "?-", ":-"} {
		for typ, same := range sorts {
			for _, unmaking := range same {
				table, m := ops.New(), first()
				if m.find(sortOf[typ], name) >= 0 || table.Op(700, typ, name) != api.OK {
					continue
				}
				if e := table.Op(0, unmaking, name); e != api.OK {
					t.Errorf("%q: error %d", name, e)
				}
				hold(t, name, table, m, name)
			}
		}
	}
	table, m := ops.New(), first()
	for _, typ := range []int{api.XFX, api.XF, api.YFX, api.YF} { // unmade, it bars nothing any more
		if e := do(t, table, &m, 700, typ, "foo"); e != api.OK {
			t.Errorf("type %d: error %d", typ, e)
		}
		do(t, table, &m, 0, typ, "foo")
	}
	hold(t, "foo", table, m, "foo")
}
