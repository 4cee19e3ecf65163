package read

import "strings"

// variables are those of a clause, as far as it is read.
type variables struct {
	numbers map[string]int64 // by their names
	names   []Bind
	count   int64
}

// number is the variable's of a name: each _ is a new one.
func (v *variables) number(name string) int64 {
	n, met := v.numbers[name]
	if met {
		return n
	}
	n = v.count
	v.count++
	if name != "_" {
		v.numbers[name] = n
		v.names = append(v.names, Bind{strings.Clone(name), n})
	}
	return n
}
