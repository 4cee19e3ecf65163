package token_test

import (
	"math/big"
	"strconv"
	"strings"
	"testing"
)

func TestP4_1Numbers(t *testing.T) {
	for text, want := range map[string]string{
		"0":                    "Number:0 End",
		"7":                    "Number:7 End",
		"00123":                "Number:123 End",
		"1234567890":           "Number:1234567890 End",
		"1 2":                  "Number:1 Number:2 End",
		"0b101":                "Number:5 End",
		"0o17":                 "Number:15 End",
		"0xff":                 "Number:255 End",
		"0xfF":                 "Number:255 End",
		"0xABCDEF":             "Number:11259375 End",
		"0xabcdef":             "Number:11259375 End",
		"0b0":                  "Number:0 End",
		"0x0":                  "Number:0 End",
		"0o00":                 "Number:0 End",
		"0x0x1":                `Number:0 ~Name"x1" End`,
		"0b12":                 "Number:1 ~Number:2 End",
		"0o78":                 "Number:7 ~Number:8 End",
		"0o17o1":               `Number:15 ~Name"o1" End`,
		"0x1g":                 `Number:1 ~Name"g" End`,
		"0x1G":                 `Number:1 ~Named"G" End`,
		"0x1_1":                `Number:1 ~Named"_1" End`,
		"1_000":                `Number:1 ~Named"_000" End`,
		"12ab":                 `Number:12 ~Name"ab" End`,
		"9A":                   `Number:9 ~Named"A" End`,
		"0a":                   `Number:0 ~Name"a" End`,
		"0e5":                  `Number:0 ~Name"e5" End`,
		"0X1":                  `Number:0 ~Named"X1" End`,
		"0B1":                  `Number:0 ~Named"B1" End`,
		"0O1":                  `Number:0 ~Named"O1" End`,
		"00x1":                 `Number:0 ~Name"x1" End`,
		"10x1":                 `Number:10 ~Name"x1" End`,
		"1x1":                  `Number:1 ~Name"x1" End`,
		"1'a'":                 `Number:1 ~Quoted"a" End`,
		"10'a'":                `Number:10 ~Quoted"a" End`,
		"a0x1":                 `Name"a0x1" End`,
		"X0'a'":                `Named"X0" ~Quoted"a" End`,
		"-1":                   `Name"-" ~Number:1 End`,
		"+0x1":                 `Name"+" ~Number:1 End`,
		"- 1":                  `Name"-" Number:1 End`,
		"1-1":                  `Number:1 ~Name"-" ~Number:1 End`,
		"1.0x1":                `Number:1 ~Name"." ~Number:1 End`,
		"0\"a\"":               `Number:0 ~Codes"a" End`,
		"0 x1":                 `Number:0 Name"x1" End`,
		"0/**/x1":              `Number:0 Name"x1" End`,
		"9223372036854775807":  "Number:9223372036854775807 End",
		"9223372036854775808":  "Number:-9223372036854775808 End",
		"-9223372036854775808": `Name"-" ~Number:-9223372036854775808 End`,
		"0x8000000000000000":   "Number:-9223372036854775808 End",
	} {
		hold(t, text, want)
	}
}

// TestP4_1NumberEdges tells numbers near 2^63 in each base, zeros ahead or not.
func TestP4_1NumberEdges(t *testing.T) {
	most := new(big.Int).Lsh(big.NewInt(1), 63)
	for ahead, base := range map[string]int{"": 10, "0b": 2, "0o": 8, "0x": 16} {
		for d := int64(-3); d <= 3; d++ {
			n := new(big.Int).Add(most, big.NewInt(d))
			want := "Number:" + n.String() + " End"
			switch {
			case d == 0:
				want = "Number:-" + n.String() + " End"
			case d > 0:
				want = "line 1, error 5"
			}
			hold(t, ahead+n.Text(base), want)
			hold(t, ahead+strings.Repeat("0", 300)+n.Text(base), want)
			hold(t, ahead+strings.ToUpper(n.Text(base)), want)
		}
		for by := uint(64); by < 140; by += 3 { // beyond 2^64 too
			far := new(big.Int).Lsh(big.NewInt(1), by)
			hold(t, "a\n"+ahead+far.Text(base)+" b", `Name"a" line 2, error 5`)
		}
	}
	hold(t, strings.Repeat("0", 65000), "Number:0 End")
	hold(t, "0x"+strings.Repeat("f", 65000), "line 1, error 5")
}

// TestP4_1Digits tries every byte behind 0x, 0o, 0b and a digit.
func TestP4_1Digits(t *testing.T) {
	for ahead, digits := range map[string]string{"0x": "0123456789abcdef", "0o": "01234567", "0b": "01"} {
		for c := range 256 {
			s := string([]byte{byte(c)})
			want := "line 1, error 5"
			if n := strings.Index(digits, strings.ToLower(s)); n >= 0 {
				want = "Number:" + strconv.Itoa(n) + " End"
			}
			hold(t, ahead+s, want)
		}
	}
	for n := range 100 {
		s := strconv.Itoa(n)
		hold(t, s, "Number:"+s+" End")
		hold(t, "0"+s+" ", "Number:"+s+" End")
	}
}

func TestP4_1Characters(t *testing.T) {
	for text, want := range map[string]string{
		"0'a":        "Number:97 End",
		"0' ":        "Number:32 End",
		"0'\t":       "Number:9 End",
		"0'0":        "Number:48 End",
		"0'00":       "Number:48 ~Number:0 End",
		"0'ab":       `Number:97 ~Name"b" End`,
		"0'a'b'":     `Number:97 ~Quoted"b" End`,
		"0'0'0'0":    `Number:48 ~Quoted"0" ~Number:0 End`,
		"0'%a":       `Number:37 ~Name"a" End`,
		"0'..":       "Number:46 ~Stop End",
		"0'/*":       `Number:47 ~Name"*" End`,
		"0'\"\"\"":   `Number:34 ~Codes"" End`,
		"0'`":        "Number:96 End",
		"0'''":       "Number:39 End",
		"0'''a":      `Number:39 ~Name"a" End`,
		"0'''''":     `Number:39 ~Quoted"" End`,
		"0'''(":      `Number:39( ~Punct"(" End`,
		`0'\n`:       "Number:10 End",
		`0'\nn`:      `Number:10 ~Name"n" End`,
		`0'\\`:       "Number:92 End",
		`0'\\\`:      `Number:92 ~Name"\\" End`,
		`0'\'`:       "Number:39 End",
		`0'\'a'`:     `Number:39 ~Name"a" line 1, error 5`,
		`0'\''a'`:    `Number:39 ~Quoted"a" End`,
		`0'\"`:       "Number:34 End",
		"0'\\`":      "Number:96 End",
		`0'\0`:       "Number:0 End",
		`0'\07`:      "Number:0 ~Number:7 End",
		`0'\0\`:      `Number:0 ~Name"\\" End`,
		"0'\xff":     "Number:255 End",
		"0'\x00":     "Number:0 End",
		"0'é":        "Number:195 line 1, error 5",
		"\n0'a\n":    "Number:97@2 End@3",
		"0'a 0'b":    "Number:97 Number:98 End",
		"- 0'a":      `Name"-" Number:97 End`,
		"a0'b'":      `Name"a0" ~Quoted"b" End`,
		`[0'\n|0'|]`: `Punct"[" ~Number:10 ~Punct"|" ~Number:124 ~Punct"]" End`,
	} {
		hold(t, text, want)
	}
}

// TestP4_1EveryCharacter tries every byte behind 0' and behind 0'\.
func TestP4_1EveryCharacter(t *testing.T) {
	escapes := map[byte]int{'n': 10, 'r': 13, 't': 9, 'a': 7, 'b': 8, 'f': 12, 'v': 11, '0': 0, '\\': '\\', '\'': '\'', '"': '"', '`': '`'}
	for c := range 256 {
		s := string([]byte{byte(c)})
		want := "Number:" + strconv.Itoa(c) + " End"
		if c == '\'' || c == '\\' || c == '\n' {
			want = "line 1, error 5"
		}
		hold(t, "0'"+s, want)
		want = "line 1, error 5"
		if n, ok := escapes[byte(c)]; ok {
			want = "Number:" + strconv.Itoa(n)
			hold(t, `0'\`+s+" a", want+` Name"a" End`)
			want += " End"
		}
		hold(t, `0'\`+s, want)
	}
}
