package token_test

import (
	"strconv"
	"strings"
	"testing"

	"prolix/api"
	"prolix/token"
)

// TestP4_1Wrong: ahead of each mistake stand lines, tokens, both or none.
func TestP4_1Wrong(t *testing.T) {
	for _, mistake := range []string{
		"`", "`a`", "\x00", "\x01", "\x08", "\x0e", "\x1f", "\x7f", "\x80", "\xa0", "\xc3\xa9", "\xff", // no token begins so
		"/*", "/**", "/*/", "/* a", "/* a\n\n", "/*\n%*", "/* * /", "/* /* ", // no comment's end
		"'", "'a", "'a\n'", "'\n'", `'\q'`, `'\`, `'\'`, `'a\x100\'`, `'\x\'`, `'\x4'`, `'\8'`, "''' ", "'\\\n\n'", "'a\"", "'a\\\nb\\\nc\n'", // what layer 2 doesn't read
		`"`, `"a`, "\"a\n\"", `"\q"`, `"\`, `"\"`, `"a""`, `"a'`, "\"\\\n\\\n\\s\"",
		"9223372036854775809", "18446744073709551616", "99999999999999999999999999", "0x8000000000000001", "0xfffffffffffffffff", "0o1000000000000000000001", "0b1000000000000000000000000000000000000000000000000000000000000001", // above 2^63
		"0x", "0xg", "0x.", "0x ", "0x_1", "0x-1", "0x(", "0x\n1", "0xx1", "0o", "0o8", "0o9", "0oa", "0o ", "0b", "0b2", "0ba", "0b'", // no digits
		"0'", "0'\n", "0''", "0''a", "0''\n'", "0'' '", `0'\`, "0'\\\n", `0'\q`, `0'\8`, `0'\1`, `0'\7\`, `0'\x`, `0'\x41\`, `0'\e`, `0'\ `, // no byte
	} {
		hold(t, mistake, "line 1, error 5")
		hold(t, mistake+"\n. a", "line 1, error 5")
		hold(t, " "+mistake, "line 1, error 5")
		hold(t, "\n\n"+mistake, "line 3, error 5")
		hold(t, "a\n. "+mistake, `Name"a" Stop@2 line 2, error 5`)
		hold(t, "a.\n%\n/*\n*/ "+mistake, `Name"a" ~Stop line 4, error 5`)
		hold(t, "'a\\\nb'\n[]"+mistake, `Quoted"ab" Punct"["@3 ~Punct"]"@3 line 3, error 5`)
	}
}

// TestP4_1NoMistake: a mistake is none where no token may begin, or as a part of another token; else it is one.
func TestP4_1NoMistake(t *testing.T) {
	for text, want := range map[string]string{
		"% ` ' \" /* 0x\na": `Name"a"@2 End@2`,
		"/* ` ' \" 0x */a":  `Name"a" End`,
		"'`'":               "Quoted\"`\" End",
		"'/*'":              `Quoted"/*" End`,
		"a0x":               `Name"a0x" End`,
		"X0'":               `Named"X0" line 1, error 5`,
		"*/":                `Name"*/" End`,
		"*/*":               `Name"*/*" End`,
		"//*":               `Name"//*" End`,
		"a/*b":              `Name"a" line 1, error 5`,
		"a/ *b":             `Name"a" ~Name"/" Name"*" ~Name"b" End`,
		"0x1/*":             `Number:1 line 1, error 5`,
		"a./*":              `Name"a" ~Name"./*" End`,
		"a. /*":             `Name"a" ~Stop line 1, error 5`,
		"a.%/*":             `Name"a" ~Stop End`,
	} {
		hold(t, text, want)
	}
}

// TestP4_1EveryByte: each byte alone, and behind a name.
func TestP4_1EveryByte(t *testing.T) {
	for c, s := range everyByte() {
		alone, letter := "", false
		switch {
		case strings.Contains("\t\n\v\f\r %", s):
			alone = "End"
		case s == ".":
			alone = "Stop End"
		case strings.Contains("!;+-*/\\^<>=~:?@#&$", s):
			alone = "Name" + strconv.Quote(s) + " End"
		case strings.Contains("()[]{},|", s):
			alone = "Punct" + strconv.Quote(s) + " End"
		case c == '_' || 'A' <= c && c <= 'Z':
			alone, letter = "Named"+strconv.Quote(s)+" End", true
		case 'a' <= c && c <= 'z':
			alone, letter = "Name"+strconv.Quote(s)+" End", true
		case '0' <= c && c <= '9':
			alone, letter = "Number:"+s+" End", true
		default:
			alone = "line 1, error 5"
		}
		if c == '\n' {
			alone += "@2"
		}
		behind := `Name"a" ~` + alone
		switch {
		case letter:
			behind = "Name" + strconv.Quote("a"+s) + " End"
		case c == '(':
			behind = `Name"a"( ~` + alone
		case strings.HasPrefix(alone, "End"), strings.HasPrefix(alone, "line"):
			behind = `Name"a" ` + alone
		}
		hold(t, s, alone)
		hold(t, "a"+s, behind)
	}
}

func TestP4_1TooLong(t *testing.T) {
	most := api.MaxText
	hold(t, strings.Repeat(" ", most), "End")
	hold(t, strings.Repeat("\n", most), "End@65537")
	hold(t, strings.Repeat("a", most), "Name"+strconv.Quote(strings.Repeat("a", most))+" End")
	hold(t, "'"+strings.Repeat("a", most-2)+"'", "Quoted"+strconv.Quote(strings.Repeat("a", most-2))+" End")
	hold(t, "/*"+strings.Repeat("*", most-3)+"/", "End")
	hold(t, "%"+strings.Repeat("a", most-1), "End")
	hold(t, strings.Repeat(" ", most-1)+"`", "line 1, error 5")
	for _, s := range []string{" ", "a", "\n", "`", ".", "(", "'", "/*", "% ", "é"} {
		for _, n := range []int{most + 1, most + 2, 2 * most} {
			hold(t, strings.Repeat(s, n)[:n], "line 0, error 3")
		}
	}
	hold(t, "a"+strings.Repeat(" ", most), "line 0, error 3")
	hold(t, "`\n"+strings.Repeat(" ", most), "line 0, error 3")
}

// TestP4_1TooMany: the End is none of those that are counted; a mistake that comes ahead of the first one too many is told.
func TestP4_1TooMany(t *testing.T) {
	const most = api.MaxTokens
	full := strings.Repeat("!\n", most-1) + "!" // the last one is on line most
	list := ""
	for n := range most {
		list += show(api.Token{Kind: api.Name, S: "!", Line: 1 + n}) + " "
	}
	for behind, want := range map[string]string{
		"":                          "End@16384",
		"\n":                        "End@16385",
		" % !":                      "End@16384",
		" /* ! \n */ ":              "End@16385",
		"!":                         "line 16384, error 3",
		"\n!":                       "line 16385, error 3",
		"\n\n/*\n*/ ! !":            "line 16387, error 3",
		"\na`":                      "line 16385, error 3",
		"\n! /*":                    "line 16385, error 3",
		"\n'\\\n' `":                "line 16385, error 3",
		"\n. ":                      "line 16385, error 3",
		"`":                         "line 16384, error 5",
		"\n`":                       "line 16385, error 5",
		"\n` !":                     "line 16385, error 5",
		" /* !\n":                   "line 16384, error 5",
		"\n'a\n' !":                 "line 16385, error 5",
		"\n\n0x !":                  "line 16386, error 5",
		"\n 99999999999999999999 !": "line 16385, error 5",
	} {
		hold(t, full+behind, list+want)
	}
	l, line, e := token.Lex(strings.Repeat("(", most))
	if len(l) != most+1 || line != 0 || e != api.OK || l[most] != (api.Token{Kind: api.End, Line: 1}) || l[most-1].Open || !l[most-2].Open {
		t.Errorf("%d tokens, line %d, error %d", len(l), line, e)
	}
	// The last one that is told looks at what is behind it all the same.
	l, line, e = token.Lex(strings.Repeat("(", api.MaxText))
	if len(l) != most || line != 1 || e != api.ErrLong || !l[most-1].Open || !l[most-1].Tight {
		t.Errorf("%d tokens, line %d, error %d", len(l), line, e)
	}
}
