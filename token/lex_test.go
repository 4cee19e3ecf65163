package token_test

import (
	"strconv"
	"strings"
	"testing"
)

func TestP4_1Told(t *testing.T) {
	for text, want := range map[string]string{
		"":                "End",
		"a:-b.":           `Name"a" ~Name":-" ~Name"b" ~Stop End`,
		"X= -1":           `Named"X" ~Name"=" Name"-" ~Number:1 End`,
		"f(":              `Name"f"( ~Punct"(" End`,
		"p(X, [a|T]).\n":  `Name"p"( ~Punct"(" ~Named"X" ~Punct"," Punct"[" ~Name"a" ~Punct"|" ~Named"T" ~Punct"]" ~Punct")" ~Stop End@2`,
		"'it''s' \"a\"'b": `Quoted"it's" Codes"a" line 1, error 5`,
		"{a} ; !":         `Punct"{" ~Name"a" ~Punct"}" Name";" Name"!" End`,
		"a.\nb.\n":        `Name"a" ~Stop Name"b"@2 ~Stop@2 End@3`,
		"p :-\n\tq(_,_A),\n\t\\+ 0'a = X. % r\n/* s\n*/t.": `Name"p" Name":-" Name"q"(@2 ~Punct"("@2 ~Named"_"@2 ~Punct","@2 ~Named"_A"@2 ~Punct")"@2 ~Punct","@2 Name"\\+"@3 Number:97@3 Name"="@3 Named"X"@3 ~Stop@3 Name"t"@5 ~Stop@5 End@5`,
	} {
		hold(t, text, want)
	}
}

// TestP4_1Blanks: what stands between tokens is none, but parts them.
func TestP4_1Blanks(t *testing.T) {
	for _, gap := range []string{" ", "\t", "\n", "\v", "\f", "\r", "   ", " \t\n\v\f\r ", "%\n", "% c\n", "%%%/* '\n", "/**/", "/* c */", "/***/", "/****/", "/*/*/", "/* /* */", "/* % */", "/*\n\n*/", "/* ' \" ` \x00\xff */", "/**//**/", "%\n%\n", " /**/ %\n "} {
		ends := strings.Count(gap, "\n")
		hold(t, gap, "End"+at(ends))
		hold(t, "a"+gap+"b", `Name"a" Name"b"`+at(ends)+" End"+at(ends))
		hold(t, ")"+gap+"(", `Punct")" Punct"("`+at(ends)+" End"+at(ends))
		hold(t, gap+"1"+gap, "Number:1"+at(ends)+" End"+at(2*ends))
	}
	for text, want := range map[string]string{
		"%":          "End",
		"a%":         `Name"a" End`,
		"a% b":       `Name"a" End`,
		"a% b\rc\fd": `Name"a" End`,
		"a%b\nc":     `Name"a" Name"c"@2 End@2`,
		"% /*\na":    `Name"a"@2 End@2`,
		"/*%*/a":     `Name"a" End`,
		"/*a*/b*/":   `Name"b" ~Name"*/" End`,
		"/* */*/":    `Name"*/" End`,
		"/*/**/a":    `Name"a" End`,
		"a/**/(":     `Name"a" Punct"(" End`,
		"\n\n\n":     "End@4",
		"\r\r\n":     "End@2",
		"\r":         "End",
		"/*\n*/%\n":  "End@3",
	} {
		hold(t, text, want)
	}
}

// at is how show tells a line ahead of which so many others end.
func at(ends int) string {
	if ends == 0 {
		return ""
	}
	return "@" + strconv.Itoa(ends+1)
}

func TestP4_1Stop(t *testing.T) {
	for text, want := range map[string]string{
		".":        "Stop End",
		". ":       "Stop End",
		".\t":      "Stop End",
		".\n":      "Stop End@2",
		".\v":      "Stop End",
		".\f":      "Stop End",
		".\r":      "Stop End",
		".%":       "Stop End",
		".% a":     "Stop End",
		".\n.":     "Stop Stop@2 End@2",
		"a .":      `Name"a" Stop End`,
		"X.":       `Named"X" ~Stop End`,
		"1.":       `Number:1 ~Stop End`,
		"1. 2":     `Number:1 ~Stop Number:2 End`,
		"1.5":      `Number:1 ~Name"." ~Number:5 End`,
		"a.b":      `Name"a" ~Name"." ~Name"b" End`,
		".(":       `Name"."( ~Punct"(" End`,
		".)":       `Name"." ~Punct")" End`,
		".,":       `Name"." ~Punct"," End`,
		".'a'":     `Name"." ~Quoted"a" End`,
		".!":       `Name"." ~Name"!" End`,
		"..":       `Name".." End`,
		"...":      `Name"..." End`,
		".. ":      `Name".." End`,
		".+":       `Name".+" End`,
		"+.":       `Name"+." End`,
		"=.\n":     `Name"=." End@2`,
		"= .":      `Name"=" Stop End`,
		"'a'.":     `Quoted"a" ~Stop End`,
		").":       `Punct")" ~Stop End`,
		"!.":       `Name"!" ~Stop End`,
		"./* a */": `Name"./*" Name"a" Name"*/" End`,
		".\x00":    `Name"." line 1, error 5`,
		".`":       `Name"." line 1, error 5`,
	} {
		hold(t, text, want)
	}
}

func TestP4_1Names(t *testing.T) {
	for _, s := range []string{
		"a", "z", "foo", "aZ", "a_", "a0", "zZ_9z", "a_b_C9",
		"+", "-", "*", "/", "\\", "^", "<", ">", "=", "~", ":", "?", "@", "#", "&", "$",
		":-", "-->", "=..", "\\+", "=:=", "\\==", "*/", "//", "/\\", "\\/", "**", "..", "+/*", "=/**/", "//*", "-.-", "+-*/\\^<>=~:.?@#&$",
		"!", ";",
	} {
		hold(t, s, "Name"+strconv.Quote(s)+" End")
		hold(t, " "+s+" ", "Name"+strconv.Quote(s)+" End")
		hold(t, s+"("+s, "Name"+strconv.Quote(s)+`( ~Punct"(" ~Name`+strconv.Quote(s)+" End")
		hold(t, "'a'"+s+",", `Quoted"a" ~Name`+strconv.Quote(s)+` ~Punct"," End`)
	}
	for _, s := range []string{"A", "Z", "_", "X", "Foo", "_a", "_9", "__", "_A", "A_b9Zz", "ABC"} {
		hold(t, s, "Named"+strconv.Quote(s)+" End")
		hold(t, s+"("+s+"+", "Named"+strconv.Quote(s)+`( ~Punct"(" ~Named`+strconv.Quote(s)+` ~Name"+" End`)
	}
	for text, want := range map[string]string{
		"a+b":     `Name"a" ~Name"+" ~Name"b" End`,
		"aB cD":   `Name"aB" Name"cD" End`,
		"Ab Cd":   `Named"Ab" Named"Cd" End`,
		"!!":      `Name"!" ~Name"!" End`,
		";;":      `Name";" ~Name";" End`,
		";!":      `Name";" ~Name"!" End`,
		"!+":      `Name"!" ~Name"+" End`,
		"+!":      `Name"+" ~Name"!" End`,
		"!a":      `Name"!" ~Name"a" End`,
		"a!":      `Name"a" ~Name"!" End`,
		"+A":      `Name"+" ~Named"A" End`,
		"a'b'":    `Name"a" ~Quoted"b" End`,
		"a\"b\"c": `Name"a" ~Codes"b" ~Name"c" End`,
		"+%":      `Name"+" End`,
		"+ /*a*/": `Name"+" End`,
		"+/*a*/":  `Name"+/*" ~Name"a" ~Name"*/" End`,
		"- - -":   `Name"-" Name"-" Name"-" End`,
		"(/**/(":  `Punct"(" Punct"(" End`,
	} {
		hold(t, text, want)
	}
}

func TestP4_1Puncts(t *testing.T) {
	for _, s := range bytes("()[]{},|") {
		open := map[bool]string{true: "("}[s == "("]
		hold(t, s, "Punct"+strconv.Quote(s)+" End")
		hold(t, s+s, "Punct"+strconv.Quote(s)+open+" ~Punct"+strconv.Quote(s)+" End")
		hold(t, "a"+s+"b", `Name"a"`+open+" ~Punct"+strconv.Quote(s)+` ~Name"b" End`)
		hold(t, s+"(", "Punct"+strconv.Quote(s)+`( ~Punct"(" End`)
		hold(t, s+" (", "Punct"+strconv.Quote(s)+` Punct"(" End`)
	}
	hold(t, "[]{}", `Punct"[" ~Punct"]" ~Punct"{" ~Punct"}" End`)
	hold(t, "||,,", `Punct"|" ~Punct"|" ~Punct"," ~Punct"," End`)
}

func TestP4_1InQuotes(t *testing.T) {
	for text, want := range map[string]string{
		`''`:                      `Quoted"" End`,
		`""`:                      `Codes"" End`,
		`'a b'`:                   `Quoted"a b" End`,
		`"a b"`:                   `Codes"a b" End`,
		`'a'('b'`:                 `Quoted"a"( ~Punct"(" ~Quoted"b" End`,
		`"a"("b"`:                 `Codes"a"( ~Punct"(" ~Codes"b" End`,
		`'a' 'b'`:                 `Quoted"a" Quoted"b" End`,
		`'a''b'`:                  `Quoted"a'b" End`,
		`"a""b"`:                  `Codes"a\"b" End`,
		`''''`:                    `Quoted"'" End`,
		`'"'"'"`:                  `Quoted"\"" ~Codes"'" End`,
		`'\n\x41\\101\\0\'`:       `Quoted"\nAA\x00" End`,
		`"\"\'\\"`:                `Codes"\"'\\" End`,
		"'`%/*.(' x":              "Quoted\"`%/*.(\" Name\"x\" End",
		"'\t\r\x00\xff\xc3\xa9'":  `Quoted` + strconv.Quote("\t\r\x00\xff\xc3\xa9") + ` End`,
		"'a\\\nb'c":               `Quoted"ab" ~Name"c"@2 End@2`,
		"\"\\\n\\\n\"(\nc":        `Codes""(` + ` ~Punct"("@3 Name"c"@4 End@4`,
		"'a'.":                    `Quoted"a" ~Stop End`,
		"foo'a'":                  `Name"foo" ~Quoted"a" End`,
		"1'a'":                    `Number:1 ~Quoted"a" End`,
		"00'a'":                   `Number:0 ~Quoted"a" End`,
		"X\"a\"":                  `Named"X" ~Codes"a" End`,
		"'%'%'":                   `Quoted"%" End`,
		"'/*'/*'*/":               `Quoted"/*" End`,
		"\"\\n\\t\\a\\b\\f\\v\\r": `line 1, error 5`,
	} {
		hold(t, text, want)
	}
}

// TestP4_1Open: only a ( right behind a token opens it, whatever its Kind; the End never is.
func TestP4_1Open(t *testing.T) {
	for text, want := range map[string]string{
		"a(":     `Name"a"( ~Punct"(" End`,
		"a (":    `Name"a" Punct"(" End`,
		"a\n(":   `Name"a" Punct"("@2 End@2`,
		"a%\n(":  `Name"a" Punct"("@2 End@2`,
		"a[(":    `Name"a" ~Punct"["( ~Punct"(" End`,
		"a'('":   `Name"a" ~Quoted"(" End`,
		"X(":     `Named"X"( ~Punct"(" End`,
		"1(":     `Number:1( ~Punct"(" End`,
		"0x1(":   `Number:1( ~Punct"(" End`,
		"0'((":   `Number:40( ~Punct"(" End`,
		"0'(":    `Number:40 End`,
		"'a'(":   `Quoted"a"( ~Punct"(" End`,
		"\"\"(":  `Codes""( ~Punct"(" End`,
		"!(":     `Name"!"( ~Punct"(" End`,
		")(":     `Punct")"( ~Punct"(" End`,
		". (":    `Stop Punct"(" End`,
		"a(\x00": `Name"a"( ~Punct"(" line 1, error 5`,
	} {
		hold(t, text, want)
	}
}
