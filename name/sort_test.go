package name_test

import (
	"strings"
	"testing"

	"prolix/name"
)

// members are the bytes of each sort but Other, written out as the document tells them.
var members = map[int]string{
	name.Blank: "\t\n\v\f\r ",
	name.Small: "abcdefghijklmnopqrstuvwxyz",
	name.Large: "ABCDEFGHIJKLMNOPQRSTUVWXYZ_",
	name.Digit: "0123456789",
	name.Sign:  `+-*/\^<>=~:.?@#&$`,
	name.Solo:  "!;",
	name.Punct: "()[]{},|%",
	name.Quote: "'\"`",
}

func wantSort(c byte) int {
	for sort, s := range members {
		if strings.IndexByte(s, c) >= 0 {
			return sort
		}
	}
	return name.Other
}

func TestP2_1Sort(t *testing.T) {
	for c := range 256 {
		if got, want := name.Sort(byte(c)), wantSort(byte(c)); got != want {
			t.Errorf("Sort of %d: %d, want %d", c, got, want)
		}
	}
}

func TestP2_1SortsAreNumbered(t *testing.T) {
	numbers := []int{name.Other, name.Blank, name.Small, name.Large, name.Digit, name.Sign, name.Solo, name.Punct, name.Quote}
	for want, got := range numbers {
		if got != want {
			t.Errorf("%d, want %d", got, want)
		}
	}
}
