package name_test

import (
	"fmt"
	"strconv"
	"strings"
	"testing"

	"prolix/api"
	"prolix/name"
)

type got struct {
	s string
	n int
	e api.Errno
}

func (g got) String() string { return fmt.Sprintf("%q, %d, error %d", g.s, g.n, g.e) }

func get(s string, quote byte) got {
	text, n, e := name.Get(s, quote)
	return got{text, n, e}
}

var lexError = got{"", 0, api.ErrLex}

func TestP2_3Told(t *testing.T) {
	for _, x := range []struct {
		s     string
		quote byte
		want  string
		n     int
	}{
		{"a''b' c", '\'', "a'b", 5},
		{"'", '\'', "", 1},
		{"' '", '\'', "", 1},
		{"'''", '\'', "'", 3},
		{"'''''", '\'', "''", 5},
		{"''''' '", '\'', "''", 5},
		{"abc'", '\'', "abc", 4},
		{`a"b'`, '\'', `a"b`, 4},
		{`a'b"`, '"', `a'b`, 4},
		{`a""b"`, '"', `a"b`, 5},
		{"a``b`", '`', "a`b", 5},
		{"a\tb\rc\x00d\xffé'", '\'', "a\tb\rc\x00d\xffé", 11},
		{`\n\r\t\a\b\f\v'`, '\'', "\n\r\t\a\b\f\v", 15},
		{`\0'`, '\'', "\x00", 3},
		{`\0a'`, '\'', "\x00a", 4},
		{`\08'`, '\'', "\x008", 4},
		{`\09'`, '\'', "\x009", 4},
		{`\0\'`, '\'', "\x00", 4},
		{`\00\'`, '\'', "\x00", 5},
		{`\07\'`, '\'', "\a", 5},
		{`\7\'`, '\'', "\a", 4},
		{`\101\1'`, '\'', "A1", 7},
		{`\377\'`, '\'', "\xff", 6},
		{`\000000000000000000000000000101\'`, '\'', "A", 33},
		{`\\'`, '\'', `\`, 3},
		{`\''`, '\'', `'`, 3},
		{`\"'`, '\'', `"`, 3},
		{"\\`'", '\'', "`", 3},
		{`\"" `, '"', `"`, 3},
		{`\'" `, '"', `'`, 3},
		{`\x41\'`, '\'', "A", 6},
		{`\x41\42'`, '\'', "A42", 8},
		{`\x0\'`, '\'', "\x00", 5},
		{`\xfF\'`, '\'', "\xff", 6},
		{`\xAb\'`, '\'', "\xab", 6},
		{`\x0000000000000000000000000000000041\'`, '\'', "A", 38},
		{"a\\\nb'", '\'', "ab", 5},
		{"\\\n\\\n'", '\'', "", 5},
	} {
		if g, want := get(x.s, x.quote), (got{x.want, x.n, api.OK}); g != want {
			t.Errorf("Get of %q: %v, want %v", x.s, g, want)
		}
	}
}

func TestP2_3Wrong(t *testing.T) {
	for _, s := range []string{
		"", "a", "a''", "''", "a\\'", "a''b", `\`, `a\`, `\n`, `\0`, `\0\`, `\x`, `\x4`, `\x41\`, `\x41`, `\7`, `\12`, "\\\n", // the text ends
		"\n'", "a\n'", "a\nb'", "''\n'", "\\n\n'", // a byte 10
		`\c'`, `\d'`, `\e'`, `\s'`, `\z'`, `\N'`, `\X41\'`, `\u0041'`, `\8'`, `\9\'`, `\ '`, `\,'`, "\\\t'", "\\\r\n'", "\\\x00'", "\\\xff'", `\%'`, `\{'`, // no escapes
		`\x\'`, `\x'`, `\xg\'`, `\x4g\'`, `\x 41\'`, `\x41 \'`, `\x-1\'`, `\x+1\'`, `\x4_1\'`, `\x0x41\'`, `\x41'`, `\x41'\'`, "\\x41\n\\'", "\\x4\n1\\'", `\xx41\'`,
		`\7'`, `\78\'`, `\7 \'`, `\7a\'`, `\1_0\'`, `\00'`, `\007'`, `\0 \'`, `\01'`, "\\7\n\\'",
		`\x100\'`, `\x1ff\'`, `\400\'`, `\777\'`, `\x10000000000000041\'`, `\2000000000000000000101\'`, `\x100000000\'`, `\xffffffffffffffffffffffffffffff\'`, // above 255
	} {
		if g := get(s, '\''); g != lexError {
			t.Errorf("Get of %q: %v", s, g)
		}
	}
}

// TestP2_3QuoteFirst: any byte may be the quote; ahead of an escape it is nothing else.
func TestP2_3QuoteFirst(t *testing.T) {
	for _, x := range []struct {
		s     string
		quote byte
		want  string
		n     int
	}{
		{`abc\`, '\\', "abc", 4},
		{`a\\n\x`, '\\', `a\n`, 5},
		{`\n`, '\\', "", 1},
		{"ab\n", '\n', "ab", 3},
		{"a\n\nb\nc", '\n', "a\nb", 5},
		{"a\\\n\n", '\n', "a", 4},
		{`\nan'`, 'n', "\na", 4},
		{`\nnnan`, 'n', "\nna", 6},
		{`\x41\x`, 'x', "A", 6},
		{`\x41\xx1x`, 'x', "Ax1", 9},
		{`\x41\4`, '4', "A", 6},
		{`\0a0`, '0', "\x00a", 4},
		{`\60\0`, '0', "0", 5},
		{"\x00\x00a\x00", 0, "\x00a", 4},
		{"\xff\xff\xff", 0xff, "\xff", 3},
		{`'"a`, 'a', `'"`, 3},
	} {
		if g, want := get(x.s, x.quote), (got{x.want, x.n, api.OK}); g != want {
			t.Errorf("Get of %q behind %q: %v, want %v", x.s, x.quote, g, want)
		}
	}
	for _, x := range []struct {
		s     string
		quote byte
	}{{`abc\\`, '\\'}, {"a\n\n", '\n'}, {"a\\\n", '\n'}, {`\00`, '0'}, {`\x4`, '4'}, {`\n`, 'n'}, {`\q`, 'q'}} {
		if g := get(x.s, x.quote); g != lexError {
			t.Errorf("Get of %q behind %q: %v", x.s, x.quote, g)
		}
	}
}

// TestP2_3Escapes tries every byte behind a \.
func TestP2_3Escapes(t *testing.T) {
	bytes := map[byte]string{'n': "\n", 'r': "\r", 't': "\t", 'a': "\a", 'b': "\b", 'f': "\f", 'v': "\v", '0': "\x00", '\\': "\\", '\'': "'", '"': "\"", '`': "`", '\n': ""}
	for c := range 256 {
		s := string([]byte{'p', '\\', byte(c), 'z', '\''})
		want := lexError
		if b, ok := bytes[byte(c)]; ok {
			want = got{"p" + b + "z", 5, api.OK}
		}
		if g := get(s, '\''); g != want {
			t.Errorf("Get of %q: %v, want %v", s, g, want)
		}
	}
}

// TestP2_3Numbers tries every byte by its number, with and without zeros ahead, and what is above.
func TestP2_3Numbers(t *testing.T) {
	for n := range 2000 {
		for _, digits := range []string{"x" + strconv.FormatInt(int64(n), 16), "x" + strings.ToUpper(strconv.FormatInt(int64(n), 16)), "x000" + strconv.FormatInt(int64(n), 16), strconv.FormatInt(int64(n), 8), "000" + strconv.FormatInt(int64(n), 8)} {
			s := `\` + digits + `\7'`
			want := lexError
			if n < 256 {
				want = got{string([]byte{byte(n), '7'}), len(s), api.OK}
			}
			if g := get(s, '\''); g != want {
				t.Errorf("Get of %q: %v, want %v", s, g, want)
			}
		}
	}
}
