// Package parts has what extended and basic patterns are both made of: atoms of one byte, and the counts of repeats. See shared/doc/06-ere.md, from which shared/doc/07-bre.md takes them over.
package parts

import (
	"strings"

	"trawl/api"
	"trawl/class"
	"trawl/octet"
	"trawl/tree"
)

const (
	// Endless is the Max of a repeat without end.
	Endless = -1
	// maxDigits is how many digits a count may have.
	maxDigits = 3
)

// Dot answers what a '.' takes.
func Dot(flags int) api.Node {
	if flags&api.Newline != 0 {
		return tree.Bytes(octet.Not(octet.Of('\n')))
	}
	return tree.Bytes(octet.Not(api.Set{}))
}

// Plain answers what a byte takes that is no mark.
func Plain(b byte, flags int) api.Node {
	set := octet.Of(b)
	if flags&api.Icase != 0 {
		set = class.Fold(set)
	}
	return tree.Bytes(set)
}

// Punct tells whether the byte is of the class punct: such a one may stand behind a '\'.
func Punct(b byte) bool {
	marks, err := class.Named("punct")
	return err == nil && octet.Has(marks, b)
}

// Bounds are the counts of a repeat.
type Bounds struct {
	Min int
	Max int
}

// Counts answers the counts that a text between braces tells, and true; false, if they are no repeat's.
func Counts(text string) (Bounds, bool) {
	first, second, comma := strings.Cut(text, ",")
	least, ok := count(first)
	if !ok {
		return Bounds{}, false
	}
	if !comma {
		return Bounds{least, least}, true
	}
	if second == "" {
		return Bounds{least, Endless}, true
	}
	most, ok := count(second)
	if !ok || most < least {
		return Bounds{}, false
	}
	return Bounds{least, most}, true
}

// count answers the count that a text is, and true; 0 and false, if it is none.
func count(text string) (int, bool) {
	if text == "" || len(text) > maxDigits {
		return 0, false
	}
	n := 0
	for i := range len(text) {
		if text[i] < '0' || text[i] > '9' {
			return 0, false
		}
		n = 10*n + int(text[i]-'0')
	}
	if n > api.MaxCount {
		return 0, false
	}
	return n, true
}
