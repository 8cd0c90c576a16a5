package bre_test

import (
	"errors"
	"reflect"
	"regexp"
	"strconv"
	"strings"
	"testing"

	"trawl/api"
	"trawl/bracket"
	"trawl/bre"
	"trawl/tree"
)

// told is what Parse is to answer.
type told struct {
	tree   api.Node
	groups int
	err    error
	at     int
}

func fails(err error, at int) told { return told{err: err, at: at} }

// sentinels are all that an error of Parse may be asked for.
func sentinels() []error {
	return []error{
		api.ErrBracket, api.ErrParen, api.ErrBrace, api.ErrCount, api.ErrRange, api.ErrClass, api.ErrCollate,
		api.ErrEscape, api.ErrRepeat, api.ErrTooBig, api.ErrNest, api.ErrLong, api.ErrTree, api.ErrDeep,
		api.ErrArgument, api.ErrNoMatch, api.ErrImage, api.ErrMany, api.ErrOption, api.ErrCommand, api.ErrClosed,
	}
}

// hold calls Parse and holds its answer against what is to be told.
func hold(t *testing.T, p string, flags int, want told) {
	t.Helper()
	got, groups, err := bre.Parse(p, flags)
	if want.err == nil {
		if err != nil || groups != want.groups || !tree.Same(got, want.tree) {
			t.Errorf("Parse(%.80q, %d) = %s, %d, %v, want %s, %d", p, flags, show(got), groups, err, show(want.tree), want.groups)
		}
		return
	}
	if groups != 0 || !reflect.DeepEqual(got, api.Node{}) {
		t.Errorf("Parse(%.80q, %d) answers %s, %d beside an error", p, flags, show(got), groups)
	}
	for _, sentinel := range sentinels() {
		if errors.Is(err, sentinel) != (sentinel == want.err) {
			t.Errorf("Parse(%.80q, %d) fails with %v, want %v", p, flags, err, want.err)
		}
	}
	var fault *api.Fault
	if !errors.As(err, &fault) || fault.At != want.at {
		t.Errorf("Parse(%.80q, %d) fails with %#v, want %v at %d", p, flags, err, want.err, want.at)
	}
	var listed *api.Listed
	if errors.As(err, &listed) {
		t.Errorf("Parse(%.80q, %d): %v tells a pattern's number", p, flags, err)
	}
}

// show tells a tree in short, for what the tests print.
func show(t api.Node) string {
	text := strconv.Itoa(t.Kind)
	switch t.Kind {
	case api.KindBytes:
		return "S" + strconv.FormatUint(t.Set[0]^t.Set[1]*3^t.Set[2]*5^t.Set[3]*7, 36)
	case api.KindGroup:
		text = "G" + strconv.Itoa(t.Num)
	case api.KindRep:
		text = "R" + strconv.Itoa(t.Min) + "," + strconv.Itoa(t.Max)
	}
	if len(t.Subs) == 0 {
		return text
	}
	var subs []string
	for _, sub := range t.Subs {
		subs = append(subs, show(sub))
	}
	return text + "[" + strings.Join(subs, " ") + "]"
}

// The means to lay trees: they share none with package tree.

func node(kind int, subs ...api.Node) api.Node { return api.Node{Kind: kind, Subs: subs} }

func begin() api.Node { return node(api.KindBegin) }
func end() api.Node   { return node(api.KindEnd) }
func empty() api.Node { return node(api.KindEmpty) }

func seq(list ...api.Node) api.Node {
	switch {
	case len(list) == 1:
		return list[0]
	case len(list) == 0:
		return empty()
	}
	return node(api.KindSeq, list...)
}

func group(num int, t api.Node) api.Node {
	return api.Node{Kind: api.KindGroup, Num: num, Subs: []api.Node{t}}
}

func rep(t api.Node, least, most int) api.Node {
	return api.Node{Kind: api.KindRep, Min: least, Max: most, Subs: []api.Node{t}}
}

// leaf is the KindBytes of these bytes.
func leaf(bytes ...byte) api.Node {
	t := node(api.KindBytes)
	for _, b := range bytes {
		t.Set[b/64] |= 1 << (b % 64)
	}
	return t
}

// row is the KindSeq of one KindBytes for each byte of the text.
func row(text string) api.Node {
	list := make([]api.Node, len(text))
	for i := range list {
		list[i] = leaf(text[i])
	}
	return seq(list...)
}

// allBut is the KindBytes of all other bytes.
func allBut(bytes ...byte) api.Node {
	t := leaf(bytes...)
	for i := range t.Set {
		t.Set[i] = ^t.Set[i]
	}
	return t
}

// either is the KindBytes of a byte by the flags.
func either(b byte, flags int) api.Node {
	switch {
	case flags&2 == 0:
		return leaf(b)
	case 'a' <= b && b <= 'z':
		return leaf(b, b-32)
	case 'A' <= b && b <= 'Z':
		return leaf(b, b+32)
	}
	return leaf(b)
}

// dot is the KindBytes of '.' by the flags.
func dot(flags int) api.Node {
	if flags&4 != 0 {
		return allBut(10)
	}
	return allBut()
}

// Each byte of a pattern is a rune of its own here, so that a dot takes one byte.
var (
	lastOne = regexp.MustCompile(`^\$(\\\)|\z)`)
	escaped = regexp.MustCompile("^\\\\[!-'*-/:-@\\[-`|~]")
	repeat  = regexp.MustCompile(`^(?:\*|\\\{([0-9]{1,3})(,([0-9]{1,3})?)?\\\})`)
	opened  = regexp.MustCompile(`^\\\{`)
	closing = regexp.MustCompile(`\\\}`)
)

func wide(p string) string {
	list := make([]rune, len(p))
	for i := range p {
		list[i] = rune(p[i])
	}
	return string(list)
}

// frame is a group that is being read; the whole pattern is the first one.
type frame struct {
	at, num int
	pieces  []api.Node
}

// What was read last, as far as it says what may stand next.
const (
	atFront   = iota // nothing, or a '\('
	atBegin          // a '^' that is a KindBegin
	atAtom           // what may be repeated
	atNothing        // anything else
)

// scanner reads a pattern as the chapter says, without calling itself: it keeps a list of the groups that are open.
type scanner struct {
	p      string
	flags  int
	frames []frame
	groups int
	last   int
}

func (s *scanner) top() *frame { return &s.frames[len(s.frames)-1] }

func (s *scanner) add(t api.Node, last int) {
	f := s.top()
	f.pieces = append(f.pieces, t)
	s.last = last
}

func model(p string, flags int) told {
	if len(p) > 1024 {
		return fails(api.ErrLong, 1024)
	}
	s := &scanner{p: p, flags: flags, frames: make([]frame, 1)}
	for place := 0; place < len(p); {
		n, err, at := s.token(place)
		if err != nil {
			return fails(err, at)
		}
		place += n
	}
	if len(s.frames) > 1 {
		return fails(api.ErrParen, s.top().at)
	}
	t := seq(s.top().pieces...)
	if tree.Size(t) > 2000 {
		return fails(api.ErrTooBig, len(p))
	}
	return told{tree: t, groups: s.groups}
}

// token reads the next token and answers how many bytes it has; or its fault and the place of that.
func (s *scanner) token(place int) (int, error, int) {
	text := wide(s.p[place:])
	switch b := s.p[place]; {
	case b == '^' && s.last == atFront:
		s.add(begin(), atBegin)
	case lastOne.MatchString(text):
		s.add(end(), atNothing)
	case b == '*' && (s.last == atFront || s.last == atBegin):
		s.add(leaf('*'), atAtom)
	case b == '*' || opened.MatchString(text):
		return s.repeated(text, place)
	case b == '.':
		s.add(dot(s.flags), atAtom)
	case b == '[':
		return s.bracketed(place)
	case b == '\\':
		return s.backslash(text, place)
	default:
		s.add(either(b, s.flags), atAtom)
	}
	return 1, nil, 0
}

// backslash reads a '\' and the byte behind it, but for a '\{'.
func (s *scanner) backslash(text string, place int) (int, error, int) {
	switch {
	case escaped.MatchString(text):
		s.add(leaf(s.p[place+1]), atAtom)
	case text[1:] == "":
		return 0, api.ErrEscape, place
	case text[1] == '(':
		if len(s.frames) == 33 {
			return 0, api.ErrNest, place
		}
		s.groups++
		s.frames = append(s.frames, frame{at: place, num: s.groups})
		s.last = atFront
	case text[1] == ')':
		if len(s.frames) == 1 {
			return 0, api.ErrParen, place
		}
		f := *s.top()
		s.frames = s.frames[:len(s.frames)-1]
		s.add(group(f.num, seq(f.pieces...)), atAtom)
	case text[1] == '}':
		return 0, api.ErrBrace, place
	default:
		return 0, api.ErrEscape, place
	}
	return 2, nil, 0
}

func (s *scanner) bracketed(place int) (int, error, int) {
	set, behind, err := bracket.Read(s.p, place, s.flags)
	var fault *api.Fault
	if errors.As(err, &fault) {
		return 0, fault.Err, fault.At
	}
	s.add(api.Node{Kind: api.KindBytes, Set: set}, atAtom)
	return behind - place, nil, 0
}

func (s *scanner) repeated(text string, place int) (int, error, int) {
	if s.last != atAtom {
		return 0, api.ErrRepeat, place
	}
	if text[0] == '\\' && !closing.MatchString(text) {
		return 0, api.ErrBrace, place
	}
	found := repeat.FindStringSubmatch(text)
	if found == nil {
		return 0, api.ErrCount, place
	}
	least, most := 0, -1
	if found[0] != "*" {
		least, _ = strconv.Atoi(found[1])
		most = least
		if found[2] != "" {
			most = -1
		}
		if found[3] != "" {
			most, _ = strconv.Atoi(found[3])
		}
		if least > 255 || most > 255 || found[3] != "" && most < least {
			return 0, api.ErrCount, place
		}
	}
	last := &s.top().pieces[len(s.top().pieces)-1]
	*last = rep(*last, least, most)
	if tree.Size(*last) > 2000 {
		return 0, api.ErrTooBig, place
	}
	s.last = atNothing
	return len(found[0]), nil, 0
}

// maker makes patterns together with their trees, by the grammar, the same ones at each run. Nothing is read for that.
type maker struct {
	state  uint32
	flags  int
	groups int
}

func (m *maker) below(n int) int {
	m.state = m.state*1664525 + 1013904223
	return int(m.state>>16) % n
}

// pattern makes one with groups of at most the depth in one another.
func (m *maker) pattern(depth int) (string, api.Node) {
	text := ""
	var pieces []api.Node
	add := func(more string, t api.Node) {
		text += more
		pieces = append(pieces, t)
	}
	if m.below(4) == 0 {
		add("^", begin())
	}
	if m.below(6) == 0 {
		add(m.repeat("*", leaf('*')))
	}
	for range m.below(5) {
		switch n := m.below(12); {
		case n == 0 && text != "":
			add(m.repeat("^", leaf('^')))
		case n == 1:
			// Something stands behind this '$', so that it is a byte.
			add("$", leaf('$'))
			add(m.repeat(m.atom(depth)))
		case n == 2:
			add("$*", rep(leaf('$'), 0, -1))
		default:
			add(m.repeat(m.atom(depth)))
		}
	}
	if m.below(4) == 0 {
		add("$", end())
	}
	return text, seq(pieces...)
}

// repeat lays a repeat behind some atoms.
func (m *maker) repeat(text string, t api.Node) (string, api.Node) {
	least := m.below(4)
	most := least + m.below(3)
	switch m.below(10) {
	case 0, 1:
		return text + "*", rep(t, 0, -1)
	case 2:
		return text + `\{` + m.count(least) + `\}`, rep(t, least, least)
	case 3:
		return text + `\{` + m.count(least) + `,\}`, rep(t, least, -1)
	case 4:
		return text + `\{` + m.count(least) + "," + m.count(most) + `\}`, rep(t, least, most)
	}
	return text, t
}

// count tells a number in one to three digits.
func (m *maker) count(n int) string {
	return "00"[m.below(3):] + strconv.Itoa(n)
}

// escapable are the bytes of punct that are themselves behind a '\'.
const escapable = "!\"#$%&'*+,-./:;<=>?@[\\]^_`|~"

func (m *maker) atom(depth int) (string, api.Node) {
	switch m.below(8) {
	case 0:
		return ".", dot(m.flags)
	case 1:
		b := escapable[m.below(len(escapable))]
		return "\\" + string([]byte{b}), leaf(b)
	case 2:
		return m.expression()
	case 3, 4:
		if depth == 0 {
			break
		}
		m.groups++
		num := m.groups
		text, t := m.pattern(depth - 1)
		return `\(` + text + `\)`, group(num, t)
	}
	for {
		b := byte(m.below(256))
		if strings.IndexByte(".[*^$\\", b) < 0 {
			return string([]byte{b}), either(b, m.flags)
		}
	}
}

// expression makes a bracket expression with bytes in it that would be marks outside of it.
func (m *maker) expression() (string, api.Node) {
	const marks = ".([*{|$\\)}"
	b := marks[m.below(len(marks))]
	if m.below(2) == 0 {
		return "[]" + string([]byte{b}) + "]", leaf(']', b)
	}
	if m.flags&4 != 0 {
		return "[^" + string([]byte{b}) + "]", allBut(b, 10)
	}
	return "[^" + string([]byte{b}) + "]", allBut(b)
}

// derived is a pattern that the grammar derives, its tree, and how many groups it has.
type derived struct {
	text   string
	tree   api.Node
	groups int
}

// derive makes patterns of at most 500 bytes with right trees, as the flags have them.
func derive(count, flags int) []derived {
	m := &maker{state: 11, flags: flags}
	var list []derived
	for len(list) < count {
		m.groups = 0
		text, t := m.pattern(m.below(5))
		if len(text) <= 500 && tree.Check(t) == nil {
			list = append(list, derived{text, t, m.groups})
		}
	}
	return list
}

// made are all texts of up to n parts behind what is handed in.
func made(begin string, n int, parts []string) []string {
	list := []string{begin}
	for i := 0; n > 0 && i < len(parts); i++ {
		list = append(list, made(begin+parts[i], n-1, parts)...)
	}
	return list
}

// mixed are longer texts, rich in marks, good ones and others, the same ones at each run.
func mixed(count int) []string {
	m := &maker{state: 5}
	parts := []string{
		`\(`, `\(`, `\(`, `\)`, `\)`, "^", "^", "*", "*", `\{2\}`, `\{1,\}`, `\{0,3\}`, `\{3,2\}`, `\{`, `\}`, "$", "$", ".", "\\", `\.`,
		"[", "]", "[a]", "[^a-c]", "[[:alpha:]]", "[[:x:]]", "a", "b", "Z", "\n", "\xff", "0", ",", "-", "(", ")", "{", "}", "+", "?", "|", `\(a\)`, `\(^b$\)`,
	}
	list := make([]string, count)
	for i := range list {
		for range m.below(14) {
			list[i] += parts[m.below(len(parts))]
		}
	}
	return list
}
