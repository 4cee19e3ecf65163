package ops

import "prolix/api"

// Sorts of types.
const (
	none = iota // no type's
	prefix
	infix
	postfix
	sorts
)

// shape is what a type says: its sort, and how much less than the operator's priority may stand on a side: 0 where a y is, 1 where an x is.
type shape struct{ sort, left, right int }

var shapes = [api.YF + 1]shape{
	api.XFX: {infix, 1, 1},
	api.XFY: {infix, 1, 0},
	api.YFX: {infix, 0, 1},
	api.FX:  {prefix, 0, 1},
	api.FY:  {prefix, 0, 0},
	api.XF:  {postfix, 1, 0},
	api.YF:  {postfix, 0, 0},
}

// rivals are, for each sort, the one that no name may have beside it.
var rivals = [sorts]int{prefix: none, infix: postfix, postfix: infix}

// row are operators of one priority and type, with blanks between.
type row struct {
	pri, typ int
	names    string
}

func first() []row {
	return []row{
		{1200, api.XFX, ":- -->"},
		{1200, api.FX, ":- ?-"},
		{1150, api.FX, "dynamic"},
		{1100, api.XFY, ";"},
		{1050, api.XFY, "->"},
		{1000, api.XFY, ","},
		{900, api.FY, `\+`},
		{700, api.XFX, `= \= == \== @< @> @=< @>= =.. is =:= =\= < > =< >=`},
		{500, api.YFX, `+ - /\ \/ xor`},
		{400, api.YFX, "* / // rem mod div << >>"},
		{200, api.XFX, "**"},
		{200, api.XFY, "^"},
		{200, api.FY, `- + \`},
	}
}
