package spell_test

import (
	"errors"
	"reflect"
	"regexp"
	"slices"
	"strconv"
	"strings"
	"testing"

	"trawl/api"
	"trawl/spell"
	"trawl/tree"
)

// The means to lay trees: they share none with the program, but that both lay api.Node.

func node(kind int, subs ...api.Node) api.Node { return api.Node{Kind: kind, Subs: subs} }

func empty() api.Node                  { return node(api.KindEmpty) }
func begin() api.Node                  { return node(api.KindBegin) }
func end() api.Node                    { return node(api.KindEnd) }
func seq(list ...api.Node) api.Node    { return node(api.KindSeq, list...) }
func alt(list ...api.Node) api.Node    { return node(api.KindAlt, list...) }
func some(list ...api.Node) []api.Node { return list }

func group(num int, t api.Node) api.Node {
	return api.Node{Kind: api.KindGroup, Num: num, Subs: some(t)}
}

func rep(t api.Node, least, most int) api.Node {
	return api.Node{Kind: api.KindRep, Min: least, Max: most, Subs: some(t)}
}

func bare(t api.Node, most int) api.Node {
	return api.Node{Kind: api.KindRep, Max: most, Bare: true, Subs: some(t)}
}

// leaf is the KindBytes of these bytes.
func leaf(bytes ...byte) api.Node {
	t := node(api.KindBytes)
	for _, b := range bytes {
		t.Set[b/64] |= 1 << (b % 64)
	}
	return t
}

// allBut is the KindBytes of all other bytes.
func allBut(bytes ...byte) api.Node {
	t := leaf(bytes...)
	for i := range t.Set {
		t.Set[i] = ^t.Set[i]
	}
	return t
}

// from is the KindBytes of the bytes from one to another.
func from(lo, hi int) api.Node {
	var list []byte
	for b := lo; b <= hi; b++ {
		list = append(list, byte(b))
	}
	return leaf(list...)
}

// row is a KindSeq of n times the tree.
func row(n int, t api.Node) api.Node { return seq(slices.Repeat(some(t), n)...) }

// nest puts groups around the tree, the outermost one with number 1.
func nest(n int, t api.Node) api.Node {
	for num := n; num > 0; num-- {
		t = group(num, t)
	}
	return t
}

// renumbered gives the groups the numbers behind last, as they are met from the left.
func renumbered(t api.Node, last *int) api.Node {
	if t.Kind == api.KindGroup {
		*last++
		t.Num = *last
	}
	t.Subs = slices.Clone(t.Subs)
	for i := range t.Subs {
		t.Subs[i] = renumbered(t.Subs[i], last)
	}
	return t
}

func numbered(t api.Node) api.Node {
	last := 0
	return renumbered(t, &last)
}

// all are the tree's nodes, each ahead of those below it.
func all(t api.Node) []api.Node {
	list := some(t)
	for _, sub := range t.Subs {
		list = append(list, all(sub)...)
	}
	return list
}

// show tells any tree in short, for what the tests print.
func show(t api.Node) string {
	text := strconv.Itoa(t.Kind)
	switch t.Kind {
	case api.KindBytes:
		return "S" + strconv.FormatUint(t.Set[0]^t.Set[1]*3^t.Set[2]*5^t.Set[3]*7, 36)
	case api.KindGroup:
		text = "G" + strconv.Itoa(t.Num)
	case api.KindRep:
		text = "R" + strconv.Itoa(t.Min) + "," + strconv.Itoa(t.Max)
	}
	if t.Bare {
		text += "bare"
	}
	var subs []string
	for _, sub := range t.Subs {
		subs = append(subs, show(sub))
	}
	return text + "[" + strings.Join(subs, " ") + "]"
}

// isTidy holds a tree against the chapter's words, node by node.
func isTidy(t api.Node) bool {
	if tree.Check(t) != nil {
		return false
	}
	num := 0
	for _, n := range all(t) {
		if n.Kind == api.KindGroup {
			num++
			if n.Num != num {
				return false
			}
		}
		if n.Bare {
			return false
		}
		for _, sub := range n.Subs {
			if !slices.Contains(below(n.Kind), sub.Kind) {
				return false
			}
		}
	}
	return true
}

// below are the kinds that a tidy tree has below a node of this kind.
func below(kind int) []int {
	switch kind {
	case api.KindSeq:
		return []int{api.KindBytes, api.KindBegin, api.KindEnd, api.KindGroup, api.KindRep}
	case api.KindAlt:
		return []int{api.KindEmpty, api.KindBytes, api.KindBegin, api.KindEnd, api.KindSeq, api.KindGroup, api.KindRep}
	case api.KindRep:
		return []int{api.KindBytes, api.KindGroup}
	}
	return []int{1, 2, 3, 4, 5, 6, 7, 8}
}

// textOf is the chapter's text of a tidy tree of any length and nesting.
func textOf(t api.Node) string {
	var subs []string
	for _, sub := range t.Subs {
		subs = append(subs, textOf(sub))
	}
	switch t.Kind {
	case api.KindBytes:
		return setText(t.Set)
	case api.KindBegin:
		return "^"
	case api.KindEnd:
		return "$"
	case api.KindAlt:
		return strings.Join(subs, "|")
	case api.KindGroup:
		return "(" + subs[0] + ")"
	case api.KindRep:
		return subs[0] + counts(t.Min, t.Max)
	}
	return strings.Join(subs, "")
}

func counts(least, most int) string {
	signs := map[[2]int]string{{0, -1}: "*", {1, -1}: "+", {0, 1}: "?"}
	if sign, ok := signs[[2]int{least, most}]; ok {
		return sign
	}
	text := strconv.Itoa(least)
	if most != least {
		text += ","
	}
	if most > least {
		text += strconv.Itoa(most)
	}
	return "{" + text + "}"
}

// byteText is a byte as a pattern takes it for itself, where these bytes are marks.
func byteText(b byte, marks string) string {
	text := string([]byte{b})
	if strings.Contains(marks, text) {
		return "\\" + text
	}
	return text
}

const (
	extendedMarks = ".[()*+?{|^$\\"
	basicMarks    = ".[*^$\\"
)

func setText(s api.Set) string {
	in, out := make([]byte, 256), make([]byte, 256)
	count := 0
	var last byte
	for b := range 256 {
		in[b], out[b] = 'n', 'y'
		if s[b/64]>>(b%64)&1 == 1 {
			in[b], out[b] = 'y', 'n'
			count++
			last = byte(b)
		}
	}
	switch {
	case count == 256:
		return "."
	case count == 1:
		return byteText(last, extendedMarks)
	case count > 128, count == 0:
		return "[^" + items(out) + "]"
	case count == 2 && in['^'] == 'y' && in['-'] == 'y':
		return "[-^]"
	}
	return "[" + items(in) + "]"
}

var (
	oneByte   = regexp.MustCompile("^y$")
	twoBytes  = regexp.MustCompile("^yy$")
	moreBytes = regexp.MustCompile("^yyy+$")
	runs      = regexp.MustCompile("y+")
)

// items are the items of the bytes at whose places a y stands.
func items(in []byte) string {
	rest := slices.Clone(in)
	had := func(b byte) string {
		if in[b] != 'y' {
			return ""
		}
		rest[b] = 'n'
		return string([]byte{b})
	}
	text, tail := had(']'), had('[')+had('^')+had('-')
	for _, at := range runs.FindAllIndex(rest, -1) {
		first, last := byte(at[0]), byte(at[1]-1)
		switch run := rest[at[0]:at[1]]; {
		case oneByte.Match(run):
			text += string([]byte{first})
		case twoBytes.Match(run):
			text += string([]byte{first, last})
		case moreBytes.Match(run):
			text += string([]byte{first, '-', last})
		}
	}
	return text + tail
}

// modelOf is what Ere is to answer.
func modelOf(t api.Node) (string, error) {
	if err := tree.Check(t); err != nil {
		return "", err
	}
	if !isTidy(t) {
		return "", api.ErrTree
	}
	if deepest(t) > 32 {
		return "", api.ErrNest
	}
	if text := textOf(t); len(text) <= 1024 {
		return text, nil
	}
	return "", api.ErrLong
}

// deepest is how many groups stand in one another: that many brackets are open at a time in the text.
func deepest(t api.Node) int {
	most, open := 0, 0
	var visit func(api.Node)
	visit = func(t api.Node) {
		if t.Kind == api.KindGroup {
			open++
			most = max(most, open)
			defer func() { open-- }()
		}
		for _, sub := range t.Subs {
			visit(sub)
		}
	}
	visit(t)
	return most
}

// sentinels are all that an error of Ere may be asked for.
func sentinels() []error {
	return []error{
		api.ErrBracket, api.ErrParen, api.ErrBrace, api.ErrCount, api.ErrRange, api.ErrClass, api.ErrCollate,
		api.ErrEscape, api.ErrRepeat, api.ErrTooBig, api.ErrNest, api.ErrLong, api.ErrTree, api.ErrDeep,
		api.ErrArgument, api.ErrNoMatch, api.ErrImage, api.ErrMany, api.ErrOption, api.ErrCommand, api.ErrClosed,
	}
}

// hold calls Tidy and Ere and holds their answers against what is to be told. Ere fails of a tidy tree only with ErrNest and ErrLong.
func hold(t *testing.T, x api.Node, text string, want error) {
	t.Helper()
	kept := tree.Copy(x)
	tidy := want == nil || want == api.ErrNest || want == api.ErrLong
	if spell.Tidy(x) != tidy {
		t.Errorf("Tidy(%.200s) = %v", show(x), !tidy)
	}
	got, err := spell.Ere(x)
	if got != text {
		t.Errorf("Ere(%.200s) = %.80q, want %.80q", show(x), got, text)
	}
	for _, sentinel := range sentinels() {
		if errors.Is(err, sentinel) != (sentinel == want) {
			t.Errorf("Ere(%.200s) fails with %v, want %v", show(x), err, want)
		}
	}
	if want == nil && err != nil {
		t.Errorf("Ere(%.200s) fails with %v", show(x), err)
	}
	var fault *api.Fault
	var listed *api.Listed
	if errors.As(err, &fault) || errors.As(err, &listed) {
		t.Errorf("Ere(%.200s): %v tells a place or a number", show(x), err)
	}
	if !reflect.DeepEqual(tree.Copy(x), kept) {
		t.Errorf("Tidy or Ere changes %.200s", show(kept))
	}
}

// holdModel holds Tidy and Ere against the model.
func holdModel(t *testing.T, x api.Node) {
	t.Helper()
	text, err := modelOf(x)
	hold(t, x, text, err)
}

// maker makes trees, the same ones at each run.
type maker struct {
	state uint32
}

func (m *maker) below(n int) int {
	m.state = m.state*1664525 + 1013904223
	return int(m.state>>16) % n
}

// set makes a set of many bytes or of few, often with those that mean something in brackets.
func (m *maker) set() api.Node {
	t := leaf()
	switch m.below(4) {
	case 0:
		return leaf(byte(m.below(256)))
	case 1:
		t = from(m.below(256), m.below(256))
	}
	const near = "]^-[,.\\_Z+`"
	for range m.below(6) {
		b := near[m.below(len(near))]
		t.Set[b/64] ^= 1 << (b % 64)
	}
	if m.below(3) == 0 {
		for i := range t.Set {
			t.Set[i] = ^t.Set[i]
		}
	}
	return t
}

// tidy makes a tidy tree, with groups of at most the depth in one another, but for its size.
func (m *maker) tidy(depth int) api.Node { return numbered(m.pattern(depth)) }

func (m *maker) pattern(depth int) api.Node {
	if m.below(3) > 0 {
		return m.branch(depth)
	}
	t := alt(m.branch(depth), m.branch(depth))
	for m.below(3) == 0 {
		t.Subs = append(t.Subs, m.branch(depth))
	}
	return t
}

func (m *maker) branch(depth int) api.Node {
	switch m.below(4) {
	case 0:
		return empty()
	case 1:
		return m.piece(depth)
	}
	t := seq(m.piece(depth), m.piece(depth))
	for m.below(2) == 0 {
		t.Subs = append(t.Subs, m.piece(depth))
	}
	return t
}

func (m *maker) piece(depth int) api.Node {
	switch m.below(10) {
	case 0:
		return begin()
	case 1:
		return end()
	case 2, 3, 4, 5:
		least := m.below(4)
		most := [...]int{-1, least, least + 1, least + m.below(5)}[m.below(4)]
		return rep(m.atom(depth), least, most)
	}
	return m.atom(depth)
}

func (m *maker) atom(depth int) api.Node {
	if depth == 0 || m.below(2) == 0 {
		return m.set()
	}
	return group(0, m.pattern(depth-1))
}

// changed is the tree with one node changed, so that it may be tidy no more.
func (m *maker) changed(t api.Node) api.Node {
	t.Subs = slices.Clone(t.Subs)
	if len(t.Subs) > 0 && m.below(4) > 0 {
		i := m.below(len(t.Subs))
		t.Subs[i] = m.changed(t.Subs[i])
		return t
	}
	switch m.below(9) {
	case 0:
		return empty()
	case 1:
		return seq(t, leaf('x'))
	case 2:
		return alt(leaf('x'), t)
	case 3:
		return rep(t, m.below(3), 2)
	case 4:
		t.Bare = true
	case 5:
		t.Num += m.below(3) - 1
	case 6:
		t.Min += m.below(3) - 1
	case 7:
		t.Kind = m.below(10)
	case 8:
		return bare(t, -1)
	}
	return t
}

// small are all trees of up to three nodes in one another from a few, right ones and others.
func small() []api.Node {
	ones := []api.Node{empty(), begin(), end(), leaf('a'), leaf('-', '^'), leaf()}
	twos := append(slices.Clone(ones), around(ones)...)
	return append(twos, around(twos)...)
}

// around are the trees with one of these, or two, below one node.
func around(subs []api.Node) []api.Node {
	var list []api.Node
	for _, t := range subs {
		list = append(list, group(1, t), group(2, t), rep(t, 0, -1), rep(t, 1, 1), rep(t, 2, -1), rep(t, 0, 0), bare(t, 1))
		for _, other := range subs {
			list = append(list, seq(t, other), alt(t, other))
		}
	}
	return list
}

// made are all texts of up to n parts behind what is handed in.
func made(begin string, n int, parts []string) []string {
	list := []string{begin}
	for i := 0; n > 0 && i < len(parts); i++ {
		list = append(list, made(begin+parts[i], n-1, parts)...)
	}
	return list
}
