package bracket_test

import (
	"errors"
	"maps"
	"regexp"
	"slices"
	"testing"
	"unicode/utf8"

	"trawl/api"
	"trawl/bracket"
)

// told is what Read is to answer.
type told struct {
	set  api.Set
	next int
	err  error
	// at is the place of err; nowhere, if it has none.
	at int
}

const nowhere = -1

func fails(err error, at int) told { return told{err: err, at: at} }

// The items in the chapter's order, the first that applies. Each byte of a pattern is a rune of its own here (see wide), so that a dot takes one byte.
var (
	head       = regexp.MustCompile(`^\[\^?`)
	collating  = regexp.MustCompile(`^\[[.=]`)
	named      = regexp.MustCompile(`(?s)^\[:(.*?):\]`)
	opened     = regexp.MustCompile(`^\[:`)
	spanToColl = regexp.MustCompile(`(?s)^.-\[[.=]`)
	spanToName = regexp.MustCompile(`(?s)^.-\[:`)
	span       = regexp.MustCompile(`(?s)^(.)-([^\]])`)
)

// wide makes of each byte a rune of its own.
func wide(p string) []rune {
	list := make([]rune, len(p))
	for i, b := range []byte(p) {
		list[i] = rune(b)
	}
	return list
}

// marked is a set told byte by byte.
type marked [256]bool

func (m marked) set() api.Set {
	var s api.Set
	for b, in := range m {
		if in {
			s[b/64] += 1 << (b % 64)
		}
	}
	return s
}

func (m *marked) span(lo, hi rune) {
	for b := lo; b <= hi; b++ {
		m[b] = true
	}
}

// rules are the classes by the words of chapter 2, told as rows of bytes.
var rules = map[string][]rune{
	"alpha":  {65, 90, 97, 122},
	"digit":  {48, 57},
	"alnum":  {48, 57, 65, 90, 97, 122},
	"upper":  {65, 90},
	"lower":  {97, 122},
	"xdigit": {48, 57, 65, 70, 97, 102},
	"blank":  {9, 9, 32, 32},
	"space":  {9, 13, 32, 32},
	"cntrl":  {0, 31, 127, 127},
	"graph":  {33, 126},
	"print":  {32, 126},
	"punct":  {33, 47, 58, 64, 91, 96, 123, 126},
}

// both adds the other case of each letter.
func (m marked) both() marked {
	folded := m
	for upper := 'A'; upper <= 'Z'; upper++ {
		lower := upper - 'A' + 'a'
		folded[upper] = m[upper] || m[lower]
		folded[lower] = m[upper] || m[lower]
	}
	return folded
}

// model reads as the chapter says, by regular expressions of the library over the text that is left.
func model(p string, at, flags int) told {
	if at < 0 || at >= len(p) || p[at] != '[' {
		return fails(api.ErrArgument, nowhere)
	}
	text := wide(p)
	next := at + len(head.FindString(string(text[at:])))
	turned := next == at+2
	var m marked
	for first := next; next < len(p) && (next == first || text[next] != ']'); {
		n, err, back := m.item(string(text[next:]))
		if err == api.ErrBracket {
			return fails(err, at)
		}
		if err != nil {
			return fails(err, next+back)
		}
		next += n
	}
	if next >= len(p) {
		return fails(api.ErrBracket, at)
	}
	return told{set: m.finish(turned, flags), next: next + 1}
}

// item adds the first item of the text and answers how many bytes it has; or its fault, and how far behind the item's first byte that is.
func (m *marked) item(text string) (int, error, int) {
	if collating.MatchString(text) {
		return 0, api.ErrCollate, 0
	}
	if name := named.FindStringSubmatch(text); name != nil {
		rows, ok := rules[name[1]]
		if !ok {
			return 0, api.ErrClass, 0
		}
		for i := 0; i < len(rows); i += 2 {
			m.span(rows[i], rows[i+1])
		}
		return utf8.RuneCountInString(name[0]), nil, 0
	}
	switch {
	case opened.MatchString(text):
		return 0, api.ErrBracket, 0
	case spanToColl.MatchString(text):
		return 0, api.ErrCollate, 2
	case spanToName.MatchString(text):
		return 0, api.ErrRange, 0
	}
	if ends := span.FindStringSubmatch(text); ends != nil {
		lo, hi := []rune(ends[1])[0], []rune(ends[2])[0]
		if hi < lo {
			return 0, api.ErrRange, 0
		}
		m.span(lo, hi)
		return 3, nil, 0
	}
	m[[]rune(text)[0]] = true
	return 1, nil, 0
}

// finish adds cases and turns, as the flags say.
func (m marked) finish(turned bool, flags int) api.Set {
	if flags&2 == 2 {
		m = m.both()
	}
	if !turned {
		return m.set()
	}
	for b := range m {
		m[b] = !m[b]
	}
	if flags&4 == 4 {
		m[10] = false
	}
	return m.set()
}

// sentinels are all that an error of Read may be asked for.
func sentinels() []error {
	return []error{
		api.ErrBracket, api.ErrParen, api.ErrBrace, api.ErrCount, api.ErrRange, api.ErrClass, api.ErrCollate,
		api.ErrEscape, api.ErrRepeat, api.ErrTooBig, api.ErrNest, api.ErrLong, api.ErrTree, api.ErrDeep,
		api.ErrArgument, api.ErrNoMatch, api.ErrImage, api.ErrMany, api.ErrOption, api.ErrCommand, api.ErrClosed,
	}
}

// hold calls Read and holds its answer against what is to be told.
func hold(t *testing.T, p string, at, flags int, want told) {
	t.Helper()
	set, next, err := bracket.Read(p, at, flags)
	if set != want.set || next != want.next {
		t.Errorf("Read(%.60q, %d, %d) = %v, %d, want %v, %d", p, at, flags, set, next, want.set, want.next)
	}
	if want.err == nil {
		if err != nil {
			t.Errorf("Read(%.60q, %d, %d) fails: %v", p, at, flags, err)
		}
		return
	}
	for _, sentinel := range sentinels() {
		if errors.Is(err, sentinel) != (sentinel == want.err) {
			t.Errorf("Read(%.60q, %d, %d) = %v, want %v", p, at, flags, err, want.err)
		}
	}
	var fault *api.Fault
	place := nowhere
	if errors.As(err, &fault) {
		place = fault.At
	}
	if place != want.at {
		t.Errorf("Read(%.60q, %d, %d): %v at %d, want %d", p, at, flags, err, place, want.at)
	}
	var listed *api.Listed
	if errors.As(err, &listed) {
		t.Errorf("Read(%.60q, %d, %d): %v tells a pattern's number", p, at, flags, err)
	}
}

// parts are what expressions are made of in the tests: bytes that mean something, others, and whole classes.
func parts() []string {
	return []string{"[", "]", "^", "-", ".", "=", ":", "a", "B", "\n", "\xff", "[:alpha:]", "[:x:]"}
}

// made are all texts of up to n parts behind what is handed in.
func made(begin string, n int, parts []string) []string {
	list := []string{begin}
	for i := 0; n > 0 && i < len(parts); i++ {
		list = append(list, made(begin+parts[i], n-1, parts)...)
	}
	return list
}

// mixed are longer texts of bytes of every kind, the same ones at each run.
func mixed(count int) []string {
	state := uint32(7)
	next := func(n int) int {
		state = state*1664525 + 1013904223
		return int(state>>16) % n
	}
	names := slices.Sorted(maps.Keys(rules))
	list := make([]string, count)
	for i := range list {
		text := "["
		if next(3) == 0 {
			text += "^"
		}
		for range next(9) {
			switch lo := next(256); next(6) {
			case 0:
				text += string([]byte{byte(lo), '-', byte(lo + next(256-lo))})
			case 1:
				text += "[:" + names[next(len(names))] + ":]"
			case 2:
				text += string([]byte{"[]^-.=:\\"[next(8)]})
			case 3:
				text += string([]byte{byte('A' + next(60))})
			default:
				text += string([]byte{byte(lo)})
			}
		}
		list[i] = text + "]"
	}
	return list
}
