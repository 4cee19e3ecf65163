package ops_test

import (
	"testing"

	"prolix/api"
	"prolix/ops"
)

// first are the operators that there are at first, in the order of List.
func first() model {
	const xfx, xfy, yfx, fx, fy = api.XFX, api.XFY, api.YFX, api.FX, api.FY
	return model{
		{400, yfx, "*"},
		{200, xfx, "**"},
		{500, yfx, "+"},
		{200, fy, "+"},
		{1000, xfy, ","},
		{500, yfx, "-"},
		{200, fy, "-"},
		{1200, xfx, "-->"},
		{1050, xfy, "->"},
		{400, yfx, "/"},
		{400, yfx, "//"},
		{500, yfx, "/\\"},
		{1200, xfx, ":-"},
		{1200, fx, ":-"},
		{1100, xfy, ";"},
		{700, xfx, "<"},
		{400, yfx, "<<"},
		{700, xfx, "="},
		{700, xfx, "=.."},
		{700, xfx, "=:="},
		{700, xfx, "=<"},
		{700, xfx, "=="},
		{700, xfx, "=\\="},
		{700, xfx, ">"},
		{700, xfx, ">="},
		{400, yfx, ">>"},
		{1200, fx, "?-"},
		{700, xfx, "@<"},
		{700, xfx, "@=<"},
		{700, xfx, "@>"},
		{700, xfx, "@>="},
		{200, fy, "\\"},
		{900, fy, "\\+"},
		{500, yfx, "\\/"},
		{700, xfx, "\\="},
		{700, xfx, "\\=="},
		{200, xfy, "^"},
		{400, yfx, "div"},
		{1150, fx, "dynamic"},
		{700, xfx, "is"},
		{400, yfx, "mod"},
		{400, yfx, "rem"},
		{500, yfx, "xor"},
	}
}

func TestP5_1First(t *testing.T) {
	hold(t, "New", ops.New(), first(), unknown()...)
	if n := len(ops.New().List()); n != 43 {
		t.Errorf("%d operators", n)
	}
}

// TestP5_1FirstAgain: no table is turned by another one.
func TestP5_1FirstAgain(t *testing.T) {
	table := ops.New()
	other := ops.New()
	for _, d := range first() {
		table.Op(0, d.Type, d.Name)
	}
	table.Op(700, api.XFX, "foo")
	hold(t, "a turned one", table, model{{1000, api.XFY, ","}, {700, api.XFX, "foo"}}, "is")
	hold(t, "one made ahead of that", other, first(), "foo")
	hold(t, "one made behind that", ops.New(), first(), "foo")
}

func TestP5_2Told(t *testing.T) {
	for name, want := range map[string]string{
		"-":       `"-": 200 200, 500 500 499, 0 0, true`,
		"+":       `"+": 200 200, 500 500 499, 0 0, true`,
		":-":      `":-": 1200 1199, 1200 1199 1199, 0 0, true`,
		"?-":      `"?-": 1200 1199, 0 0 0, 0 0, true`,
		"\\+":     `"\\+": 900 900, 0 0 0, 0 0, true`,
		"dynamic": `"dynamic": 1150 1149, 0 0 0, 0 0, true`,
		",":       `",": 0 0, 1000 999 1000, 0 0, true`,
		"is":      `"is": 0 0, 700 699 699, 0 0, true`,
		"^":       `"^": 0 0, 200 199 200, 0 0, true`,
		"**":      `"**": 0 0, 200 199 199, 0 0, true`,
		"foo":     `"foo": 0 0, 0 0 0, 0 0, false`,
		"|":       `"|": 0 0, 0 0 0, 0 0, false`,
		"":        `"": 0 0, 0 0 0, 0 0, false`,
	} {
		if got := answers(ops.New(), name); got != want {
			t.Errorf("%s, want %s", got, want)
		}
	}
}
