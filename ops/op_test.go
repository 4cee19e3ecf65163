package ops_test

import (
	"fmt"
	"strings"
	"testing"
	"unsafe"

	"prolix/api"
	"prolix/ops"
)

// TestP5_1Arguments tries all that are near a bound, of names of all sorts; what is refused turns nothing.
func TestP5_1Arguments(t *testing.T) {
	names := append(unknown(), ",", "is", "-", "\\+", "post", "both")
	for _, pri := range priorities() {
		for _, typ := range types() {
			for _, name := range names {
				table, m := ops.New(), first()
				do(t, table, &m, 200, api.XF, "post")
				do(t, table, &m, 200, api.YF, "both")
				do(t, table, &m, 200, api.FY, "both")
				do(t, table, &m, pri, typ, name)
				hold(t, fmt.Sprintf("Op(%d, %d, %.20q)", pri, typ, name), table, m, name)
			}
		}
	}
}

func TestP5_1Told(t *testing.T) {
	for _, x := range []struct {
		pri, typ int
		name     string
		e        api.Errno
	}{
		{700, api.XF, "is", api.ErrPerm}, {700, api.YF, "is", api.ErrPerm}, {1, api.XF, ":-", api.ErrPerm},
		{0, api.XF, "is", api.OK}, {0, api.YF, "is", api.OK}, {0, api.YF, "foo", api.OK}, {0, api.XFX, "foo", api.OK}, {0, api.FX, "is", api.OK},
		{700, api.FX, "is", api.OK}, {700, api.XFX, "\\+", api.OK}, {700, api.XF, "\\+", api.OK}, {700, api.XF, "dynamic", api.OK},
		{700, api.XFX, "", api.OK}, {700, api.XFX, strings.Repeat("a", 1000), api.OK}, {700, api.XFX, strings.Repeat("a", 1001), api.ErrArg}, {0, api.XFX, strings.Repeat("a", 1001), api.ErrArg},
		{1200, api.XFX, "a", api.OK}, {1, api.XFX, "a", api.OK}, {1201, api.XFX, "a", api.ErrArg}, {-1, api.XFX, "a", api.ErrArg},
		{1, 0, "a", api.ErrArg}, {1, 8, "a", api.ErrArg}, {0, 0, "a", api.ErrArg}, {0, 8, "a", api.ErrArg},
		{1, api.XFX, ",", api.ErrPerm}, {0, api.XFY, ",", api.ErrPerm}, {1000, api.XFY, ",", api.ErrPerm}, {0, api.FX, ",", api.ErrPerm}, {1, api.YF, ",", api.ErrPerm},
		{1100, api.XFY, "|", api.ErrPerm}, {0, api.XFY, "|", api.ErrPerm}, {1, api.FX, "[]", api.ErrPerm}, {0, api.YF, "[]", api.ErrPerm}, {1, api.XF, "{}", api.ErrPerm}, {0, api.XFX, "{}", api.ErrPerm},
		{1201, api.XFX, ",", api.ErrArg}, {-1, api.FX, "[]", api.ErrArg}, {0, 9, "{}", api.ErrArg}, {1201, api.XF, "is", api.ErrArg}, {1, -1, "|", api.ErrArg}, // ErrArg comes first
		{1, api.FX, "[", api.OK}, {1, api.FX, "]", api.OK}, {1, api.FX, "{", api.OK}, {1, api.FX, "||", api.OK}, {1, api.FX, "[] ", api.OK}, {1, api.FX, ".", api.OK}, {1, api.FX, "!", api.OK},
	} {
		table := ops.New()
		if e := table.Op(x.pri, x.typ, x.name); e != x.e {
			t.Errorf("Op(%d, %d, %.20q): error %d, want %d", x.pri, x.typ, x.name, e, x.e)
		}
		if x.e != api.OK {
			hold(t, "what is refused turns something", table, first(), x.name)
		}
	}
}

// TestP5_1Instead: an operator is made instead of what it was in its sort, whatever its type there; other sorts stay.
func TestP5_1Instead(t *testing.T) {
	table, m := ops.New(), first()
	for _, x := range []ops.Def{
		{200, api.XFX, "-"}, {300, api.XFY, "-"}, {300, api.YFX, "-"}, {1, api.FX, "-"}, {1200, api.FY, "-"},
		{200, api.XF, "p"}, {200, api.YF, "p"}, {300, api.XF, "p"}, {300, api.FX, "p"}, {400, api.FY, "p"}, {400, api.FY, "p"},
		{0, api.XFX, "-"}, // of the same sort as YFX: unmade, though its type is another one
		{0, api.FX, "-"}, {0, api.YF, "p"}, {0, api.YF, "p"}, {500, api.XFX, "p"},
	} {
		if e := do(t, table, &m, x.Pri, x.Type, x.Name); e != api.OK {
			t.Fatalf("%v: error %d", x, e)
		}
		hold(t, fmt.Sprint(x), table, m, x.Name)
	}
	if got, want := answers(table, "-"), `"-": 0 0, 0 0 0, 0 0, false`; got != want {
		t.Errorf("%s, want %s", got, want)
	}
	if got, want := answers(table, "p"), `"p": 400 400, 500 499 499, 0 0, true`; got != want {
		t.Errorf("%s, want %s", got, want)
	}
}

// full is a table of 256 operators: those at first, prefix, infix and postfix ones.
func full(t *testing.T) (*ops.Table, model) {
	table, m := ops.New(), first()
	for n := 0; len(m) < 256; n++ {
		name := fmt.Sprint("p", n/2)
		if e := do(t, table, &m, 1+n, []int{api.FX, api.XFY, api.FY, api.YF}[n%4], name); e != api.OK {
			t.Fatalf("%d operators: error %d", len(m), e)
		}
	}
	return table, m
}

func TestP5_1Full(t *testing.T) {
	table, m := full(t)
	hold(t, "a full one", table, m, "foo")
	for _, x := range []struct {
		pri, typ int
		name     string
		e        api.Errno
	}{
		{1, api.FX, "foo", api.ErrFull}, {1, api.YFX, "foo", api.ErrFull}, {1200, api.YF, "foo", api.ErrFull},
		{1, api.FX, "is", api.ErrFull}, {1, api.XFX, "\\+", api.ErrFull}, {1, api.YF, "\\+", api.ErrFull}, // of that name there is one of another sort
		{1, api.XF, "p0", api.ErrPerm}, {1, api.XFX, "p1", api.ErrPerm}, {1, api.XF, "is", api.ErrPerm}, {1, api.FX, ",", api.ErrPerm}, {1, api.FX, "[]", api.ErrPerm}, // comes ahead of ErrFull
		{1201, api.FX, "foo", api.ErrArg}, {1, 8, "foo", api.ErrArg}, {1, api.FX, strings.Repeat("a", 1001), api.ErrArg},
		{0, api.FX, "foo", api.OK}, {0, api.XFX, "foo", api.OK}, {0, api.XF, "is", api.OK}, {0, api.FX, "is", api.OK}, // unmakes none
		{7, api.YFX, "is", api.OK}, {7, api.FY, "p0", api.OK}, {7, api.XFX, "p0", api.OK}, {7, api.XF, "p1", api.OK}, {7, api.FX, "\\+", api.OK}, // makes none that is new
	} {
		if e := do(t, table, &m, x.pri, x.typ, x.name); e != x.e {
			t.Errorf("Op(%d, %d, %.20q): error %d, want %d", x.pri, x.typ, x.name, e, x.e)
		}
		hold(t, "a full one", table, m, x.name)
	}
	for _, sort := range []int{api.FX, api.XFX, api.XF} { // room for one is room for one of any sort
		if e := do(t, table, &m, 0, api.FX, "p0"); e != api.OK {
			t.Fatal(e)
		}
		if e := do(t, table, &m, 9, sort, "foo"); e != api.OK {
			t.Fatal(e)
		}
		if e := do(t, table, &m, 9, api.FX, "p0"); e != api.ErrFull {
			t.Fatal(e)
		}
		do(t, table, &m, 0, sort, "foo")
		do(t, table, &m, 9, api.FX, "p0")
		hold(t, "a full one again", table, m, "foo")
	}
	if e := table.Copy().Op(1, api.FX, "foo"); e != api.ErrFull {
		t.Errorf("a full one's Copy: error %d", e)
	}
}

// TestP5_1Longest: full of the longest names, that are told apart by their last bytes.
func TestP5_1Longest(t *testing.T) {
	table, m := ops.New(), first()
	for n := range 300 {
		do(t, table, &m, 700, api.XFX, fmt.Sprintf("%s%03d", strings.Repeat("a", 997), n))
	}
	hold(t, "long names", table, m, strings.Repeat("a", 997), strings.Repeat("a", 1000))
}

func TestP5_1Nil(t *testing.T) {
	var table *ops.Table
	for _, pri := range priorities() {
		for _, typ := range types() {
			for _, name := range []string{"foo", "is", ",", "[]", "", strings.Repeat("a", 1001)} {
				if e := table.Op(pri, typ, name); e != api.ErrNil {
					t.Errorf("Op(%d, %d, %.20q): error %d", pri, typ, name, e)
				}
			}
		}
	}
	if l := table.List(); len(l) != 0 {
		t.Errorf("List: %v", l)
	}
	if c := table.Copy(); c != nil {
		t.Errorf("Copy: %v", c)
	}
	for _, name := range append(unknown(), "is", "-", ",") {
		if got, want := answers(table, name), (model{}).answers(name); got != want {
			t.Errorf("%s, want %s", got, want)
		}
	}
}

// TestP5_1Unmade: a table that New didn't make is a table as any other.
func TestP5_1Unmade(t *testing.T) {
	var table ops.Table
	var m model
	hold(t, "of none", &table, m, "is", ",")
	hold(t, "its Copy", table.Copy(), m, "is", ",")
	do(t, &table, &m, 0, api.XFX, "is")
	do(t, table.Copy(), &model{}, 700, api.XFX, "is")
	do(t, &table, &m, 1000, api.XFY, ",")
	hold(t, "of none still", &table, m, "is", ",")
	do(t, &table, &m, 700, api.XFX, "is")
	hold(t, "of one", &table, m, "is", ",")
}

// TestP5_1NotKept: a name that is handed in isn't kept: its memory may become another text's.
func TestP5_1NotKept(t *testing.T) {
	memory := []byte("foo")
	table, m := ops.New(), first()
	table.Op(700, api.XFX, unsafe.String(unsafe.SliceData(memory), len(memory)))
	m.op(700, api.XFX, "foo")
	copy(memory, "bar")
	hold(t, "a name is kept", table, m, "bar")
}

// TestP5_2NewNames: no two lists share a name's memory.
func TestP5_2NewNames(t *testing.T) {
	table := ops.New()
	lists := [][]ops.Def{table.List(), table.List(), table.Copy().List(), ops.New().List()}
	met := map[*byte]bool{}
	for _, l := range lists {
		for _, d := range l {
			met[unsafe.StringData(d.Name)] = true
		}
	}
	if want := len(lists) * len(first()); len(met) != want {
		t.Errorf("%d names' memory, want %d", len(met), want)
	}
}
